/- Free names: the two maps of texts, bind. -/
import Derived.Sort.KeysCollected
import Derived.StringKeys
import Derived.Test.YtcjhgefkbnbmnaaPTmL
namespace Go.Proofs.Ytcjhgefkbnbmnaa
open Go.RowKit LM
set_option linter.unusedVariables false

/-- One more binder of x, or d more. -/
def updB (β : List UInt8 → Int) (x : List UInt8) (d : Int) : List UInt8 → Int := fun y => if y = x then β y + d else β y
theorem updB_back (β : List UInt8 → Int) (x : List UInt8) (d e : Int) (h : d + e = 0) : updB (updB β x d) x e = β := by
  funext y
  unfold updB
  by_cases hy : y = x
  · simp only [if_pos hy]; omega
  · simp only [if_neg hy]
theorem updB_comm (β : List UInt8 → Int) (x y : List UInt8) (d e : Int) : updB (updB β x d) y e = updB (updB β y e) x d := by
  funext z
  unfold updB
  by_cases hx : z = x <;> by_cases hy : z = y <;> simp only [hx, hy, if_true, if_false] <;> (try simp_all) <;> omega
theorem updB_le {β : List UInt8 → Int} {x : List UInt8} {d a c : Int} (hd : -1 ≤ d ∧ d ≤ 1) (h : ∀ y, a ≤ β y ∧ β y ≤ c) : ∀ y, a - 1 ≤ updB β x d y ∧ updB β x d y ≤ c + 1 := fun y => by
  have := h y
  unfold updB
  split <;> omega
/-- x, once. -/
def addN (l : List (List UInt8)) (x : List UInt8) : List (List UInt8) := if x ∈ l then l else l ++ [x]
theorem addN_mem (l : List (List UInt8)) (x y : List UInt8) : y ∈ addN l x ↔ y ∈ l ∨ y = x := by
  unfold addN
  split
  · next h => exact ⟨.inl, fun h2 => h2.elim id (fun e => e ▸ h)⟩
  · simp
theorem addN_nodup {l : List (List UInt8)} {x : List UInt8} (h : l.Nodup) : (addN l x).Nodup := by
  unfold addN
  split
  · exact h
  · next hx => exact List.nodup_append.2 ⟨h, by simp, fun a ha b hb e => by simp at hb; subst hb; subst e; exact hx ha⟩
theorem addN_len (l : List (List UInt8)) (x : List UInt8) : (addN l x).length ≤ l.length + 1 := by
  unfold addN
  split <;> simp

/-- The map in block b tells how many binders of each name are around. -/
def BdIs (W : World) (b n : Nat) (β : List UInt8 → Int) : Prop :=
  ∃ D : DataW Unit, W.ownsMap Try.prog 9 (plainElem Try.prog 3) b n D ∧ Maps.IsMap D ∧ ∀ x, D.atKey (.string x) (.lit (.int .i64 0)) = .lit (.int .i64 (β x))
theorem BdIs.start (w : World) : BdIs (w.alloc (.map #[] 0)) w.heap.size 0 (fun _ => 0) :=
  ⟨.map [], World.ownsMap_made w _ _ _, by simp [Maps.IsMap], fun x => rfl⟩
theorem BdIs.kept {W W' : World} {row : Option Nat} {b n : Nat} {β : List UInt8 → Int} (h : BdIs W b n β) (hg : W.grownBy W' row) (hne : some b ≠ row) : BdIs W' b n β := by
  obtain ⟨D, h1, h2, h3⟩ := h
  exact ⟨D, h1.kept hg hne, h2, h3⟩
theorem BdIs.below {W W' : World} {b n : Nat} {β : List UInt8 → Int} (h : BdIs W b n β) (hb : Below W.heap.size W W') : BdIs W' b n β := h.kept (row := none) ⟨hb.os, hb.tape, hb.output, hb.size, fun k hk _ => hb.block k hk⟩ (by simp)
theorem BdIs.mono {W : World} {b n m : Nat} {β : List UInt8 → Int} (h : BdIs W b n β) (hn : n ≤ m) : BdIs W b m β := by
  obtain ⟨D, h1, h2, h3⟩ := h
  exact ⟨D, h1.mono hn, h2, h3⟩
theorem BdIs.lt {W : World} {b n : Nat} {β : List UInt8 → Int} (h : BdIs W b n β) : b < W.heap.size := by
  obtain ⟨D, h1, h2, h3⟩ := h; exact h1.lt
theorem BdIs.look {W : World} {b n : Nat} {β : List UInt8 → Int} (h : BdIs W b n β) {s : ByteArray} (hs : s.size ≤ maxLen) :
    (Instr.lookup 86 (.map (some b)) (.string s) false).run Try.prog W = .ok (.int .i64 (β s.data.toList)) W := by
  obtain ⟨D, h1, h2, h3⟩ := h
  obtain ⟨c, hr, hc, _⟩ := h1.lookup_int (Maps.string_keyed Try.underlying9) Try.underlying86 Try.underlying3 (Try.zeroValue3 _) (WideMaps.keyOf_string_mk Try.underlying9 hs)
  rw [h3] at hc
  simp only [DataW.lit.injEq, Lit.int.injEq, true_and] at hc
  rw [hr, hc]
theorem BdIs.store {W : World} {b n : Nat} {β : List UInt8 → Int} (h : BdIs W b n β) {s : ByteArray} (hs : s.size ≤ maxLen) (hn : n < maxLen) (d : Int) (hv : (Lit.int .i64 (β s.data.toList + d)).wf = true) :
    ∃ w', (Instr.mapUpdate 86 (.map (some b)) (.string s) (.int .i64 (β s.data.toList + d))).run Try.prog W = .ok () w' ∧ BdIs w' b (n + 1) (updB β s.data.toList d) ∧ W.grownBy w' (some b) := by
  obtain ⟨D, h1, h2, h3⟩ := h
  obtain ⟨w', hr, hown, hg⟩ := h1.update (Maps.string_keyed Try.underlying9) Try.underlying86 hn (WideMaps.keyOf_string_mk Try.underlying9 hs) (plainElem_int Try.underlying3 hv)
  refine ⟨w', hr, ⟨_, hown, h2.put _ _, fun y => ?_⟩, hg⟩
  unfold updB
  by_cases hxy : y = s.data.toList
  · rw [hxy, if_pos rfl]
    have hkl : WideAt.IsKeyLit (.string s.data.toList) := by simp [WideAt.IsKeyLit]
    rw [Maps.atKey_put_same h2 hkl]
  · have hne : (Lit.string y) ≠ .string s.data.toList := fun e => by cases e; exact hxy rfl
    rw [Maps.atKey_put_other hne, h3 y, if_neg hxy]

/-- The map in block b holds which names are free. -/
def FrIs (W : World) (b n : Nat) (l : List (List UInt8)) : Prop :=
  ∃ D : DataW Unit, W.ownsMap Try.prog 9 (plainElem Try.prog 4) b n D ∧ Maps.Tidy D ∧ l.Nodup ∧ ∀ x, Maps.has D (.string x) = decide (x ∈ l)
theorem FrIs.start (w : World) : FrIs (w.alloc (.map #[] 0)) w.heap.size 0 [] :=
  ⟨.map [], World.ownsMap_made w _ _ _, Maps.tidy_empty, List.nodup_nil, fun x => by simp [Maps.has]⟩
theorem FrIs.kept {W W' : World} {row : Option Nat} {b n : Nat} {l : List (List UInt8)} (h : FrIs W b n l) (hg : W.grownBy W' row) (hne : some b ≠ row) : FrIs W' b n l := by
  obtain ⟨D, h1, h2, h3⟩ := h
  exact ⟨D, h1.kept hg hne, h2, h3⟩
theorem FrIs.below {W W' : World} {b n : Nat} {l : List (List UInt8)} (h : FrIs W b n l) (hb : Below W.heap.size W W') : FrIs W' b n l := h.kept (row := none) ⟨hb.os, hb.tape, hb.output, hb.size, fun k hk _ => hb.block k hk⟩ (by simp)
theorem FrIs.mono {W : World} {b n m : Nat} {l : List (List UInt8)} (h : FrIs W b n l) (hn : n ≤ m) : FrIs W b m l := by
  obtain ⟨D, h1, h2, h3⟩ := h
  exact ⟨D, h1.mono hn, h2, h3⟩
theorem FrIs.lt {W : World} {b n : Nat} {l : List (List UInt8)} (h : FrIs W b n l) : b < W.heap.size := by
  obtain ⟨D, h1, h2, h3⟩ := h; exact h1.lt
theorem FrIs.store {W : World} {b n : Nat} {l : List (List UInt8)} (h : FrIs W b n l) {s : ByteArray} (hs : s.size ≤ maxLen) (hn : n < maxLen) :
    ∃ w', (Instr.mapUpdate 87 (.map (some b)) (.string s) (.bool true)).run Try.prog W = .ok () w' ∧ FrIs w' b (n + 1) (addN l s.data.toList) ∧ W.grownBy w' (some b) := by
  obtain ⟨D, h1, h2, h3, h4⟩ := h
  have hkl : WideAt.IsKeyLit (.string s.data.toList) := by simp [WideAt.IsKeyLit]
  obtain ⟨w', hr, hown, hg⟩ := h1.update (Maps.string_keyed Try.underlying9) Try.underlying87 hn (WideMaps.keyOf_string_mk Try.underlying9 hs) (plainElem_bool Try.underlying4 true)
  refine ⟨w', hr, ⟨_, hown, h2.put hkl _, addN_nodup h3, fun y => ?_⟩, hg⟩
  by_cases hxy : y = s.data.toList
  · rw [hxy, Maps.has_put_same h2.isMap hkl]
    have := (addN_mem l s.data.toList s.data.toList).2 (.inr rfl)
    simp [this]
  · have hne : (Lit.string y) ≠ .string s.data.toList := fun e => by cases e; exact hxy rfl
    rw [Maps.has_put_other hne, h4 y]
    have := addN_mem l s.data.toList y
    simp only [hxy, or_false] at this
    exact decide_eq_decide.2 this.symm

/-- The names that a node binds in its Kid are bound d times more. -/
def bindB (h : TH) (kid : Nat) (d : Int) (β : List UInt8 → Int) : List UInt8 → Int :=
  if h.op = 35 ∨ h.op = 49 ∨ h.op = 50 then updB β h.arg.data.toList d
  else if h.op = 36 then updB (updB β h.name.data.toList d) h.arg.data.toList d
  else if h.op = 38 ∧ kid = 1 then updB β h.name.data.toList d
  else β
theorem bindB_back (h : TH) (kid : Nat) (β : List UInt8 → Int) : bindB h kid (-1) (bindB h kid 1 β) = β := by
  unfold bindB
  by_cases h1 : h.op = 35 ∨ h.op = 49 ∨ h.op = 50
  · simp only [if_pos h1]; exact updB_back _ _ _ _ (by omega)
  · simp only [if_neg h1]
    by_cases h2 : h.op = 36
    · simp only [if_pos h2]
      rw [updB_comm, updB_back _ _ _ _ (by omega), updB_back _ _ _ _ (by omega)]
    · simp only [if_neg h2]
      by_cases h3 : h.op = 38 ∧ kid = 1
      · simp only [if_pos h3]; exact updB_back _ _ _ _ (by omega)
      · simp only [if_neg h3]
theorem bindB_le {h : TH} {kid : Nat} {d a c : Int} {β : List UInt8 → Int} (hd : -1 ≤ d ∧ d ≤ 1) (hb : ∀ y, a ≤ β y ∧ β y ≤ c) : ∀ y, a - 2 ≤ bindB h kid d β y ∧ bindB h kid d β y ≤ c + 2 := fun y => by
  have h0 := hb y
  have h1 := updB_le (x := h.arg.data.toList) hd hb y
  have h2 := updB_le (x := h.name.data.toList) hd hb y
  have h3 := updB_le (x := h.arg.data.toList) hd (updB_le (x := h.name.data.toList) hd hb) y
  unfold bindB
  split
  · omega
  · split
    · omega
    · split <;> omega

/-- The search: its box, its two maps. -/
structure DnI (w0 : World) (sb mb mf n : Nat) (β : List UInt8 → Int) (l : List (List UInt8)) (W : World) : Prop where
  below : Below w0.heap.size w0 W
  s0 : w0.heap.size ≤ sb
  b0 : w0.heap.size ≤ mb
  f0 : w0.heap.size ≤ mf
  neB : sb ≠ mb
  neF : sb ≠ mf
  neM : mb ≠ mf
  box : W.heap[sb]? = some (.cells #[.map (some mb), .map (some mf)] 89 (0, 0))
  bd : BdIs W mb n β
  fr : FrIs W mf n l
theorem DnI.drewN {w0 : World} {sb mb mf n : Nat} {β : List UInt8 → Int} {l : List (List UInt8)} {W : World} (h : DnI w0 sb mb mf n β l W) (m : Nat) : DnI w0 sb mb mf n β l (W.drewN m) :=
  have hb := below_drewN (Below.refl W.heap.size W) m
  ⟨below_drewN h.below m, h.s0, h.b0, h.f0, h.neB, h.neF, h.neM, h.box, h.bd.below hb, h.fr.below hb⟩
theorem DnI.mono {w0 : World} {sb mb mf n m : Nat} {β : List UInt8 → Int} {l : List (List UInt8)} {W : World} (h : DnI w0 sb mb mf n β l W) (hn : n ≤ m) : DnI w0 sb mb mf m β l W :=
  ⟨h.below, h.s0, h.b0, h.f0, h.neB, h.neF, h.neM, h.box, h.bd.mono hn, h.fr.mono hn⟩
theorem DnI.stepB {w0 : World} {sb mb mf n : Nat} {β β' : List UInt8 → Int} {l : List (List UInt8)} {W W' : World} (h : DnI w0 sb mb mf n β l W) (hb : BdIs W' mb (n + 1) β') (hg : W.grownBy W' (some mb)) : DnI w0 sb mb mf (n + 1) β' l W' :=
  ⟨h.below.grown hg h.below.size (fun r e => by have := Option.some.inj e; have := h.b0; omega), h.s0, h.b0, h.f0, h.neB, h.neF, h.neM, (hg.block _ (Array.getElem?_eq_some_iff.1 h.box).1 (fun e => h.neB (Option.some.inj e))).trans h.box, hb, (h.fr.kept hg (fun e => h.neM (Option.some.inj e).symm)).mono (by omega)⟩
theorem DnI.stepF {w0 : World} {sb mb mf n : Nat} {β : List UInt8 → Int} {l l' : List (List UInt8)} {W W' : World} (h : DnI w0 sb mb mf n β l W) (hb : FrIs W' mf (n + 1) l') (hg : W.grownBy W' (some mf)) : DnI w0 sb mb mf (n + 1) β l' W' :=
  ⟨h.below.grown hg h.below.size (fun r e => by have := Option.some.inj e; have := h.f0; omega), h.s0, h.b0, h.f0, h.neB, h.neF, h.neM, (hg.block _ (Array.getElem?_eq_some_iff.1 h.box).1 (fun e => h.neF (Option.some.inj e))).trans h.box, (h.bd.kept hg (fun e => h.neM (Option.some.inj e))).mono (by omega), hb⟩
end Go.Proofs.Ytcjhgefkbnbmnaa

namespace Go.Proofs.Ytcjhgefkbnbmnaa
open Go.RowKit LM
set_option linter.unusedVariables false

theorem wrap_small {x : Int} (h : -1099511627778 ≤ x ∧ x ≤ 1099511627778) : IntKind.i64.wrap x = x := by
  simp only [IntKind.wrap, IntKind.signed, IntKind.bits]
  simp
  omega

set_option maxRecDepth 100000 in
set_option maxHeartbeats 4000000 in
theorem bind_any (w0 : World) (sb mb mf n : Nat) (β : List UInt8 → Int) (l : List (List UInt8)) (b o : Nat) (h : TH) (qa : Option Addr) (ca : Nat) (q : Option Addr) (len cap kid : Nat) (d : Int) (W : World)
    (hth : THAt w0 b o h qa ca q len cap) (hh : h.ok) (hd : DnI w0 sb mb mf n β l W) (hn : n + 2 ≤ 1099511627776) (hm : -1 ≤ d ∧ d ≤ 1) (hβ : ∀ y, -1099511627776 ≤ β y ∧ β y ≤ 1099511627776) (hk : kid ≤ 1099511627776) :
    Calls Try.prog 105 #[.pointer (some ⟨sb, 0, none⟩), .pointer (some ⟨b, o, none⟩), .int .i64 kid, .int .i64 d] W fun e W' => e = .returned (.tuple #[]) ∧ DnI w0 sb mb mf (n + 2) (bindB h kid d β) l W' := by
  have ht := hth.same (hd.below.block _ hth.lt)
  have c0 := ht.c0
  have c1 := ht.c1
  have c2 := ht.c2
  have x0 : W.cell? ⟨sb, 0, none⟩ = some (.map (some mb)) := by simp [World.cell?, hd.box]
  have h0 := hh.op0
  have h1 := hh.op1
  have hnm := hh.name
  have hag := hh.arg
  have hwf : ∀ x : Int, -1099511627778 ≤ x ∧ x ≤ 1099511627778 → (Lit.int .i64 x).wf = true := fun x hx => by
    simp [Lit.wf, IntKind.min, IntKind.max, IntKind.signed, IntKind.bits]; omega
  have HD := Lib.hid hd
  clear ht
  by_cases ha : h.op = 35 ∨ h.op = 49 ∨ h.op = 50
  case pos =>
    have HB : Hid (bindB h kid d β = updB β h.arg.data.toList d) := Lib.hid (by unfold bindB; rw [if_pos ha])
    have e1 : W.drewN 1 = W.drew := rfl
    have hlk := (hd.drewN 1).bd.look hag
    rw [e1] at hlk
    have hb0 := hβ h.arg.data.toList
    have hwr := wrap_small (x := β h.arg.data.toList + d) (by omega)
    obtain ⟨w3, hup, hbd, hg⟩ := (hd.drewN 1).bd.store hag (by unfold maxLen; omega) d (hwf _ (by omega))
    rw [e1] at hup
    have HF := Lib.hid (((hd.drewN 1).stepB hbd hg).mono (m := n + 2) (by omega))
    clear hbd hg hd hβ hwf hth hh
    generalize bindB h kid d β = B at *
    generalize β h.arg.data.toList = v at *
    rcases ha with ha | ha | ha <;> rw [ha] at c0
    · go_enter Try.func105, Try.ntmps105
      go_wp2_with fail
      go_region
      go_wp2
      go_end0
      rw [HB.out]
      exact ⟨rfl, HF.out⟩
    · go_enter Try.func105, Try.ntmps105
      go_wp2_with fail
      go_region
      go_wp2
      go_end0
      rw [HB.out]
      exact ⟨rfl, HF.out⟩
    · go_enter Try.func105, Try.ntmps105
      go_wp2_with fail
      go_region
      go_wp2
      go_end0
      rw [HB.out]
      exact ⟨rfl, HF.out⟩
  case neg =>
    have a1 : decide (h.op = 35) = false := by simp; omega
    have a2 : decide (h.op = 49) = false := by simp; omega
    have a3 : decide (h.op = 50) = false := by simp; omega
    by_cases h36 : h.op = 36
    case pos =>
      have HB : Hid (bindB h kid d β = updB (updB β h.name.data.toList d) h.arg.data.toList d) := Lib.hid (by unfold bindB; rw [if_neg ha, if_pos h36])
      have e1 : W.drewN 1 = W.drew := rfl
      have hlk := (hd.drewN 1).bd.look hnm
      rw [e1] at hlk
      have hb0 := hβ h.name.data.toList
      have hβ1 := updB_le (x := h.name.data.toList) hm hβ h.arg.data.toList
      have hwr := wrap_small (x := β h.name.data.toList + d) (by omega)
      obtain ⟨w3, hup, hbd, hg⟩ := (hd.drewN 1).bd.store hnm (by unfold maxLen; omega) d (hwf _ (by omega))
      rw [e1] at hup
      have hd2 := (hd.drewN 1).stepB hbd hg
      have y0 : w3.cell? ⟨sb, 0, none⟩ = some (.map (some mb)) := by simp [World.cell?, hd2.box]
      have ht2 := hth.same (hd2.below.block _ hth.lt)
      have d2 := ht2.c2
      have e2 : w3.drewN 1 = w3.drew := rfl
      have hlk2 := (hd2.drewN 1).bd.look hag
      rw [e2] at hlk2
      have hwr2 := wrap_small (x := updB β h.name.data.toList d h.arg.data.toList + d) (by omega)
      obtain ⟨w4, hup2, hbd2, hg2⟩ := (hd2.drewN 1).bd.store hag (by unfold maxLen; omega) d (hwf _ (by omega))
      rw [e2] at hup2
      have HF := Lib.hid (((hd2.drewN 1).stepB hbd2 hg2).mono (m := n + 2) (by omega))
      clear hbd hg hd hβ hwf hth hh hd2 ht2 hbd2 hg2 a1 a2 a3
      generalize bindB h kid d β = B at *
      generalize updB β h.name.data.toList d h.arg.data.toList = v2 at *
      generalize β h.name.data.toList = v at *
      rw [h36] at c0
      go_enter Try.func105, Try.ntmps105
      go_wp2_with fail
      go_region
      go_wp2_with fail
      go_region
      go_wp2
      go_end0
      rw [HB.out]
      exact ⟨rfl, HF.out⟩
    case neg =>
      have a4 : decide (h.op = 36) = false := by simp; omega
      by_cases h38 : h.op = 38
      case pos =>
        by_cases hk1 : kid = 1
        case pos =>
          have HB : Hid (bindB h kid d β = updB β h.name.data.toList d) := Lib.hid (by unfold bindB; rw [if_neg ha, if_neg h36, if_pos ⟨h38, hk1⟩])
          have e1 : W.drewN 1 = W.drew := rfl
          have hlk := (hd.drewN 1).bd.look hnm
          rw [e1] at hlk
          have hb0 := hβ h.name.data.toList
          have hwr := wrap_small (x := β h.name.data.toList + d) (by omega)
          obtain ⟨w3, hup, hbd, hg⟩ := (hd.drewN 1).bd.store hnm (by unfold maxLen; omega) d (hwf _ (by omega))
          rw [e1] at hup
          have HF := Lib.hid (((hd.drewN 1).stepB hbd hg).mono (m := n + 2) (by omega))
          clear hbd hg hd hβ hwf hth hh a1 a2 a3 a4
          generalize bindB h kid d β = B at *
          generalize β h.name.data.toList = v at *
          rw [h38] at c0
          subst hk1
          go_enter Try.func105, Try.ntmps105
          go_wp2_with fail
          go_region
          go_wp2
          go_end0
          rw [HB.out]
          exact ⟨rfl, HF.out⟩
        case neg =>
          have HB : Hid (bindB h kid d β = β) := Lib.hid (by unfold bindB; rw [if_neg ha, if_neg h36, if_neg (fun e => hk1 e.2)])
          have HF := Lib.hid (hd.mono (m := n + 2) (by omega))
          clear hd hβ hwf hth hh a1 a2 a3 a4
          generalize bindB h kid d β = B at *
          have hk2 : (kid : Int) ≠ 1 := by omega
          rw [h38] at c0
          go_enter Try.func105, Try.ntmps105
          go_wp2
          go_end0
          rw [HB.out]
          exact ⟨rfl, HF.out⟩
      case neg =>
        have a5 : decide (h.op = 38) = false := by simp; omega
        have HB : Hid (bindB h kid d β = β) := Lib.hid (by unfold bindB; rw [if_neg ha, if_neg h36, if_neg (fun e => h38 e.1)])
        have HF := Lib.hid (hd.mono (m := n + 2) (by omega))
        clear hd hβ hwf hth hh
        generalize bindB h kid d β = B at *
        go_enter Try.func105, Try.ntmps105
        go_wp2
        go_end0
        rw [HB.out]
        exact ⟨rfl, HF.out⟩
end Go.Proofs.Ytcjhgefkbnbmnaa

namespace Go.Proofs.Ytcjhgefkbnbmnaa
open Go.RowKit LM
set_option linter.unusedVariables false

/-- A node's own name, where it is free. -/
def freeO (h : TH) (β : List UInt8 → Int) (l : List (List UInt8)) : List (List UInt8) := if h.op = 32 ∧ β h.name.data.toList = 0 then addN l h.name.data.toList else l
/-- What is free in Kids from number i on, behind l. -/
def freeK : TF → TH → Nat → (List UInt8 → Int) → List (List UInt8) → List (List UInt8)
  | .nil, _, _, _, l => l
  | .cons h k r, p, i, β, l => freeK r p (i + 1) β (freeK k h 0 (bindB p i 1 β) (freeO h (bindB p i 1 β) l))
/-- What is free in a term, behind l. -/
def freeT (h : TH) (k : TF) (β : List UInt8 → Int) (l : List (List UInt8)) : List (List UInt8) := freeK k h 0 β (freeO h β l)

structure DnL (w0 : World) (sb mb mf n : Nat) (β : List UInt8 → Int) (k : TF) (h : TH) (L b' o' : Nat) (fin : List (List UInt8)) (j : Nat) (W : World) : Prop where
  le : j ≤ L
  ex : ∃ r lj, r.len + j = L ∧ r.ok ∧ r.size ≤ k.size ∧ (0 < L → TFAt w0 r b' (o' + j * 10)) ∧ freeK r h j β lj = fin ∧ DnI w0 sb mb mf (n + 1 + 5 * (k.size - r.size)) β lj W

set_option maxRecDepth 100000 in
set_option maxHeartbeats 4000000 in
theorem down_any (w0 : World) (sb mb mf : Nat) : ∀ (m : Nat) (h : TH) (k : TF) (b o : Nat) (qa : Option Addr) (ca : Nat) (q : Option Addr) (cap : Nat) (n : Nat) (B : Int) (β : List UInt8 → Int) (l : List (List UInt8)) (W : World), k.size < m → THAt w0 b o h qa ca q k.len cap → TSl w0 q cap k → h.ok → k.ok →
    DnI w0 sb mb mf n β l W → n + 1 + 5 * k.size ≤ 1099511627776 → (∀ y, -B ≤ β y ∧ β y ≤ B) → B + 2 * k.size ≤ 1099511627776 →
    Calls Try.prog 78 #[.pointer (some ⟨sb, 0, none⟩), .pointer (some ⟨b, o, none⟩)] W fun e W' => e = .returned (.tuple #[]) ∧ DnI w0 sb mb mf (n + 1 + 5 * k.size) β (freeT h k β l) W' := by
  intro m
  induction m with
  | zero => intro h k b o qa ca q cap n B β l W hm; omega
  | succ m ih =>
    intro h k b o qa ca q cap n B β l W hm hth hsl hh hok hd hn hB hB2
    have hks := TF.len_le_size k
    have ht := hth.same (hd.below.block _ hth.lt)
    have c0 := ht.c0
    have c1 := ht.c1
    have c9 := ht.c9
    have x0 : W.cell? ⟨sb, 0, none⟩ = some (.map (some mb)) := by simp [World.cell?, hd.box]
    have x1 : W.cell? ⟨sb, 1, none⟩ = some (.map (some mf)) := by simp [World.cell?, hd.box]
    have h0 := hh.op0
    have h1 := hh.op1
    have hlc := hsl.lc
    have hcm := hsl.cm
    obtain ⟨L, hL⟩ : ∃ L, L = k.len := ⟨_, rfl⟩
    obtain ⟨fin, hfin⟩ : ∃ fin, fin = freeT h k β l := ⟨_, rfl⟩
    obtain ⟨b', o', hat⟩ : ∃ b' o', 0 < L → q = some ⟨b', o', none⟩ ∧ TFAt w0 k b' o' := by
      by_cases hl0 : 0 < k.len
      · obtain ⟨b', o', e1, e2⟩ := hsl.at_ hl0
        exact ⟨b', o', fun _ => ⟨e1, e2⟩⟩
      · exact ⟨0, 0, fun e => by omega⟩
    -- the loop, from whatever world the search stands at
    have HST : Hid (∀ W1, DnI w0 sb mb mf (n + 1) β (freeO h β l) W1 → DnL w0 sb mb mf n β k h L b' o' fin 0 W1) := Lib.hid fun W1 h1 => by
      refine ⟨Nat.zero_le _, k, _, by omega, hok, Nat.le_refl _, fun e => by rw [Nat.zero_mul, Nat.add_zero]; exact (hat e).2, hfin.symm, by rw [Nat.sub_self]; exact h1⟩
    have HIH := Lib.hid ih
    have HTH := Lib.hid hth
    have HH := Lib.hid hh
    have HAT := Lib.hid hat
    have HBB := Lib.hid hB
    have HD := Lib.hid hd
    have HFI := Lib.hid hfin
    rw [← hfin]
    rw [← hL] at hlc hks c9 HTH
    clear ih hth hsl hok ht hat hfin hB hL
    unfold maxLen at hcm
    by_cases h32 : h.op = 32
    case neg =>
      have a1 : decide (h.op = 32) = false := by simp [h32]
      have hfo : freeO h β l = l := by unfold freeO; rw [if_neg (fun e => h32 e.1)]
      rw [hfo] at HST
      have HL := Lib.hid (fun nq => HST.out _ ((hd.drewN nq).mono (by omega)))
      clear hd HST hfo
      go_enter Try.func78, Try.ntmps78
      go_wp2_with fail
      go_quiet (fail)
      go_wp2
      go_loopw [4, 35] (fun _ i wr => ∃ j : Nat, i = .int .i64 j ∧ DnL w0 sb mb mf n β k h L b' o' fin j wr) (fun _ i _ => L - (intOf i).toNat)
      case atStart => exact ⟨0, rfl, HL.out _⟩
      case round =>
        obtain ⟨j, rfl, hI⟩ := hrel
        obtain ⟨hjL, r, lj, hrl, hrk, hrs, hra, hrf, hrd⟩ := hI
        have HJL := Lib.hid hjL
        by_cases hj : j < L
        · cases r with
          | nil => simp [TF.len] at hrl; omega
          | cons h0 k0 r =>
            obtain ⟨rfl, _⟩ := HAT.out (by omega)
            obtain ⟨qa0, ca0, q0, cap0, hd0, ha0, hs0, hra2⟩ := hra (by omega)
            obtain ⟨ok1, ok2, ok3⟩ := hrk
            have hsz : k0.size + r.size + 1 ≤ k.size := by simp [TF.size] at hrs; omega
            have hrl2 : r.len + (j + 1) = L := by simp [TF.len] at hrl; omega
            have hn1 : k.size - (TF.cons h0 k0 r).size + (1 + k0.size) = k.size - r.size := by simp [TF.size]; omega
            have hsl0 : TSl w0 q0 cap0 k0 := ⟨hd0.lc, hd0.cm, hs0⟩
            generalize k.size - (TF.cons h0 k0 r).size = s1 at *
            have hb1 := bindB_le (h := h) (kid := j) (d := 1) (by omega) HBB.out
            have HC1 := Lib.hid (bind_any w0 sb mb mf _ β lj b o h qa ca _ L cap j 1 wr HTH.out HH.out hrd (by omega) (by omega) (fun y => by have := HBB.out y; omega) (by omega))
            have HC2 := Lib.hid fun W1 (hd1 : DnI w0 sb mb mf (n + 1 + 5 * s1 + 2) (bindB h j 1 β) lj W1) => HIH.out h0 k0 b' (o' + j * 10) qa0 ca0 q0 cap0 _ (B + 2) (bindB h j 1 β) lj W1 (by omega) hd0 hsl0 ok1 ok2 hd1 (by omega) (fun y => by have := hb1 y; omega) (by omega)
            have HC3 := Lib.hid fun W1 (hd1 : DnI w0 sb mb mf (n + 1 + 5 * s1 + 2 + 1 + 5 * k0.size) (bindB h j 1 β) (freeT h0 k0 (bindB h j 1 β) lj) W1) => bind_any w0 sb mb mf _ (bindB h j 1 β) (freeT h0 k0 (bindB h j 1 β) lj) b o h qa ca _ L cap j (-1) W1 HTH.out HH.out hd1 (by omega) (by omega) (fun y => by have := hb1 y; omega) (by omega)
            have HN : Hid (∀ W1, DnI w0 sb mb mf (n + 1 + 5 * s1 + 2 + 1 + 5 * k0.size + 2) (bindB h j (-1) (bindB h j 1 β)) (freeT h0 k0 (bindB h j 1 β) lj) W1 → DnL w0 sb mb mf n β k h L b' o' fin (j + 1) W1) := Lib.hid fun W1 hd1 => by
              rw [bindB_back] at hd1
              refine ⟨hj, r, _, hrl2, ok3, by omega, fun _ => ?_, hrf, hd1.mono (by omega)⟩
              rw [show o' + (j + 1) * 10 = o' + j * 10 + 10 from by omega]
              exact hra2
            clear hra hra2 hrf hrd hs0 hd0 hsl0 ha0 ok1 ok2 ok3 hn1 hb1 hrl
            go_wp2_with fail
            refine HC1.out.mono ?_
            rintro e w1 ⟨rfl, hd1⟩
            have z9 := (HTH.out.same (hd1.below.block _ HTH.out.lt)).c9
            have HD1 := Lib.hid hd1
            clear hd1
            go_wp2_with fail
            refine (HC2.out _ HD1.out).mono ?_
            rintro e w2 ⟨rfl, hd2⟩
            have HD2 := Lib.hid hd2
            clear hd2
            go_wp2_with fail
            refine (HC3.out _ HD2.out).mono ?_
            rintro e w3 ⟨rfl, hd3⟩
            have HD3 := Lib.hid hd3
            clear hd3
            go_wp2
            go_roundw
            case rel => exact ⟨j + 1, by go_num, HN.out _ HD3.out⟩
            case measure => simp [intOf]; omega
        · have hje : j = L := by omega
          cases r with
          | cons h0 k0 r => simp [TF.len] at hrl; omega
          | nil =>
            have HE : Hid (lj = fin ∧ DnI w0 sb mb mf (n + 1 + 5 * k.size) β lj wr) := Lib.hid ⟨hrf, hrd⟩
            clear hrf hrd hra hrk hje
            go_wp2
            go_end0
            obtain ⟨rfl, h2⟩ := HE.out
            exact ⟨rfl, h2⟩
    case pos =>
      have hnm := hh.name
      have hlk := fun m => (hd.drewN m).bd.look hnm
      rw [h32] at c0
      by_cases hz : β h.name.data.toList = 0
      case neg =>
        have a1 : decide (β h.name.data.toList = 0) = false := by simp [hz]
        have a2 : (β h.name.data.toList == 0) = false := by simp [hz]
        have hfo : freeO h β l = l := by unfold freeO; rw [if_neg (fun e => hz e.2)]
        rw [hfo] at HST
        have HL := Lib.hid (fun nq => HST.out _ ((hd.drewN nq).mono (by omega)))
        clear hd HST hfo
        generalize β h.name.data.toList = v at *
        go_enter Try.func78, Try.ntmps78
        go_wp2_with fail
        go_quiet (fail)
        clear hlk
        go_wp2
        go_loopw [4, 35] (fun _ i wr => ∃ j : Nat, i = .int .i64 j ∧ DnL w0 sb mb mf n β k h L b' o' fin j wr) (fun _ i _ => L - (intOf i).toNat)
        case atStart => exact ⟨0, rfl, HL.out _⟩
        case round =>
          obtain ⟨j, rfl, hI⟩ := hrel
          obtain ⟨hjL, r, lj, hrl, hrk, hrs, hra, hrf, hrd⟩ := hI
          have HJL := Lib.hid hjL
          by_cases hj : j < L
          · cases r with
            | nil => simp [TF.len] at hrl; omega
            | cons h0 k0 r =>
              obtain ⟨rfl, _⟩ := HAT.out (by omega)
              obtain ⟨qa0, ca0, q0, cap0, hd0, ha0, hs0, hra2⟩ := hra (by omega)
              obtain ⟨ok1, ok2, ok3⟩ := hrk
              have hsz : k0.size + r.size + 1 ≤ k.size := by simp [TF.size] at hrs; omega
              have hrl2 : r.len + (j + 1) = L := by simp [TF.len] at hrl; omega
              have hn1 : k.size - (TF.cons h0 k0 r).size + (1 + k0.size) = k.size - r.size := by simp [TF.size]; omega
              have hsl0 : TSl w0 q0 cap0 k0 := ⟨hd0.lc, hd0.cm, hs0⟩
              generalize k.size - (TF.cons h0 k0 r).size = s1 at *
              have hb1 := bindB_le (h := h) (kid := j) (d := 1) (by omega) HBB.out
              have HC1 := Lib.hid (bind_any w0 sb mb mf _ β lj b o h qa ca _ L cap j 1 wr HTH.out HH.out hrd (by omega) (by omega) (fun y => by have := HBB.out y; omega) (by omega))
              have HC2 := Lib.hid fun W1 (hd1 : DnI w0 sb mb mf (n + 1 + 5 * s1 + 2) (bindB h j 1 β) lj W1) => HIH.out h0 k0 b' (o' + j * 10) qa0 ca0 q0 cap0 _ (B + 2) (bindB h j 1 β) lj W1 (by omega) hd0 hsl0 ok1 ok2 hd1 (by omega) (fun y => by have := hb1 y; omega) (by omega)
              have HC3 := Lib.hid fun W1 (hd1 : DnI w0 sb mb mf (n + 1 + 5 * s1 + 2 + 1 + 5 * k0.size) (bindB h j 1 β) (freeT h0 k0 (bindB h j 1 β) lj) W1) => bind_any w0 sb mb mf _ (bindB h j 1 β) (freeT h0 k0 (bindB h j 1 β) lj) b o h qa ca _ L cap j (-1) W1 HTH.out HH.out hd1 (by omega) (by omega) (fun y => by have := hb1 y; omega) (by omega)
              have HN : Hid (∀ W1, DnI w0 sb mb mf (n + 1 + 5 * s1 + 2 + 1 + 5 * k0.size + 2) (bindB h j (-1) (bindB h j 1 β)) (freeT h0 k0 (bindB h j 1 β) lj) W1 → DnL w0 sb mb mf n β k h L b' o' fin (j + 1) W1) := Lib.hid fun W1 hd1 => by
                rw [bindB_back] at hd1
                refine ⟨hj, r, _, hrl2, ok3, by omega, fun _ => ?_, hrf, hd1.mono (by omega)⟩
                rw [show o' + (j + 1) * 10 = o' + j * 10 + 10 from by omega]
                exact hra2
              clear hra hra2 hrf hrd hs0 hd0 hsl0 ha0 ok1 ok2 ok3 hn1 hb1 hrl
              go_wp2_with fail
              refine HC1.out.mono ?_
              rintro e w1 ⟨rfl, hd1⟩
              have z9 := (HTH.out.same (hd1.below.block _ HTH.out.lt)).c9
              have HD1 := Lib.hid hd1
              clear hd1
              go_wp2_with fail
              refine (HC2.out _ HD1.out).mono ?_
              rintro e w2 ⟨rfl, hd2⟩
              have HD2 := Lib.hid hd2
              clear hd2
              go_wp2_with fail
              refine (HC3.out _ HD2.out).mono ?_
              rintro e w3 ⟨rfl, hd3⟩
              have HD3 := Lib.hid hd3
              clear hd3
              go_wp2
              go_roundw
              case rel => exact ⟨j + 1, by go_num, HN.out _ HD3.out⟩
              case measure => simp [intOf]; omega
          · have hje : j = L := by omega
            cases r with
            | cons h0 k0 r => simp [TF.len] at hrl; omega
            | nil =>
              have HE : Hid (lj = fin ∧ DnI w0 sb mb mf (n + 1 + 5 * k.size) β lj wr) := Lib.hid ⟨hrf, hrd⟩
              clear hrf hrd hra hrk hje
              go_wp2
              go_end0
              obtain ⟨rfl, h2⟩ := HE.out
              exact ⟨rfl, h2⟩
      case pos =>
        have hfo : freeO h β l = addN l h.name.data.toList := by unfold freeO; rw [if_pos ⟨h32, hz⟩]
        rw [hfo] at HST
        rw [hz] at hlk
        have HS : Hid (∀ nq, ∃ w3, (Instr.mapUpdate 87 (.map (some mf)) (.string h.name) (.bool true)).run Try.prog (W.drewN (nq + 1)) = .ok () w3 ∧ DnL w0 sb mb mf n β k h L b' o' fin 0 w3 ∧ w3.cell? ⟨b, o + 9, none⟩ = some (.slice q L cap)) := Lib.hid fun nq => by
          obtain ⟨w3, hup, hfr, hg⟩ := (hd.drewN (nq + 1)).fr.store hnm (by unfold maxLen; omega)
          have h3 := (hd.drewN (nq + 1)).stepF hfr hg
          exact ⟨w3, hup, HST.out _ h3, (HTH.out.same (h3.below.block _ HTH.out.lt)).c9⟩
        clear hd HST hfo
        go_enter Try.func78, Try.ntmps78
        go_wp2_with fail
        go_quiet (fail)
        clear hlk
        obtain ⟨w3, hup, HL0, z9⟩ := HS.out nq
        have HL := Lib.hid HL0
        clear HL0
        go_wp2_with fail
        go_region
        clear hup
        go_wp2
        go_loopw [4, 35] (fun _ i wr => ∃ j : Nat, i = .int .i64 j ∧ DnL w0 sb mb mf n β k h L b' o' fin j wr) (fun _ i _ => L - (intOf i).toNat)
        case atStart => exact ⟨0, rfl, HL.out⟩
        case round =>
          obtain ⟨j, rfl, hI⟩ := hrel
          obtain ⟨hjL, r, lj, hrl, hrk, hrs, hra, hrf, hrd⟩ := hI
          have HJL := Lib.hid hjL
          by_cases hj : j < L
          · cases r with
            | nil => simp [TF.len] at hrl; omega
            | cons h0 k0 r =>
              obtain ⟨rfl, _⟩ := HAT.out (by omega)
              obtain ⟨qa0, ca0, q0, cap0, hd0, ha0, hs0, hra2⟩ := hra (by omega)
              obtain ⟨ok1, ok2, ok3⟩ := hrk
              have hsz : k0.size + r.size + 1 ≤ k.size := by simp [TF.size] at hrs; omega
              have hrl2 : r.len + (j + 1) = L := by simp [TF.len] at hrl; omega
              have hn1 : k.size - (TF.cons h0 k0 r).size + (1 + k0.size) = k.size - r.size := by simp [TF.size]; omega
              have hsl0 : TSl w0 q0 cap0 k0 := ⟨hd0.lc, hd0.cm, hs0⟩
              generalize k.size - (TF.cons h0 k0 r).size = s1 at *
              have hb1 := bindB_le (h := h) (kid := j) (d := 1) (by omega) HBB.out
              have HC1 := Lib.hid (bind_any w0 sb mb mf _ β lj b o h qa ca _ L cap j 1 wr HTH.out HH.out hrd (by omega) (by omega) (fun y => by have := HBB.out y; omega) (by omega))
              have HC2 := Lib.hid fun W1 (hd1 : DnI w0 sb mb mf (n + 1 + 5 * s1 + 2) (bindB h j 1 β) lj W1) => HIH.out h0 k0 b' (o' + j * 10) qa0 ca0 q0 cap0 _ (B + 2) (bindB h j 1 β) lj W1 (by omega) hd0 hsl0 ok1 ok2 hd1 (by omega) (fun y => by have := hb1 y; omega) (by omega)
              have HC3 := Lib.hid fun W1 (hd1 : DnI w0 sb mb mf (n + 1 + 5 * s1 + 2 + 1 + 5 * k0.size) (bindB h j 1 β) (freeT h0 k0 (bindB h j 1 β) lj) W1) => bind_any w0 sb mb mf _ (bindB h j 1 β) (freeT h0 k0 (bindB h j 1 β) lj) b o h qa ca _ L cap j (-1) W1 HTH.out HH.out hd1 (by omega) (by omega) (fun y => by have := hb1 y; omega) (by omega)
              have HN : Hid (∀ W1, DnI w0 sb mb mf (n + 1 + 5 * s1 + 2 + 1 + 5 * k0.size + 2) (bindB h j (-1) (bindB h j 1 β)) (freeT h0 k0 (bindB h j 1 β) lj) W1 → DnL w0 sb mb mf n β k h L b' o' fin (j + 1) W1) := Lib.hid fun W1 hd1 => by
                rw [bindB_back] at hd1
                refine ⟨hj, r, _, hrl2, ok3, by omega, fun _ => ?_, hrf, hd1.mono (by omega)⟩
                rw [show o' + (j + 1) * 10 = o' + j * 10 + 10 from by omega]
                exact hra2
              clear hra hra2 hrf hrd hs0 hd0 hsl0 ha0 ok1 ok2 ok3 hn1 hb1 hrl
              go_wp2_with fail
              refine HC1.out.mono ?_
              rintro e w1 ⟨rfl, hd1⟩
              have z9 := (HTH.out.same (hd1.below.block _ HTH.out.lt)).c9
              have HD1 := Lib.hid hd1
              clear hd1
              go_wp2_with fail
              refine (HC2.out _ HD1.out).mono ?_
              rintro e w2 ⟨rfl, hd2⟩
              have HD2 := Lib.hid hd2
              clear hd2
              go_wp2_with fail
              refine (HC3.out _ HD2.out).mono ?_
              rintro e w3 ⟨rfl, hd3⟩
              have HD3 := Lib.hid hd3
              clear hd3
              go_wp2
              go_roundw
              case rel => exact ⟨j + 1, by go_num, HN.out _ HD3.out⟩
              case measure => simp [intOf]; omega
          · have hje : j = L := by omega
            cases r with
            | cons h0 k0 r => simp [TF.len] at hrl; omega
            | nil =>
              have HE : Hid (lj = fin ∧ DnI w0 sb mb mf (n + 1 + 5 * k.size) β lj wr) := Lib.hid ⟨hrf, hrd⟩
              clear hrf hrd hra hrk hje
              go_wp2
              go_end0
              obtain ⟨rfl, h2⟩ := HE.out
              exact ⟨rfl, h2⟩
end Go.Proofs.Ytcjhgefkbnbmnaa

namespace Go.Proofs.Ytcjhgefkbnbmnaa
open Go.RowKit LM
set_option linter.unusedVariables false

/-- A slice that reads as these texts. -/
structure TxAt (w : World) (a : Option Addr) (c : Nat) (l : List (List UInt8)) : Prop where
  lc : l.length ≤ c
  cm : c ≤ maxLen
  at_ : 0 < l.length → ∃ b o, a = some ⟨b, o, none⟩ ∧ b < w.heap.size ∧ ∀ i (h : i < l.length), w.cell? ⟨b, o + i, none⟩ = some (.string ⟨l[i].toArray⟩)
theorem TxAt.below {w w' : World} {a : Option Addr} {c : Nat} {l : List (List UInt8)} (h : TxAt w a c l) (hb : Below w.heap.size w w') : TxAt w' a c l :=
  ⟨h.lc, h.cm, fun h0 => by
    obtain ⟨b, o, e, hlt, hc⟩ := h.at_ h0
    exact ⟨b, o, e, Nat.lt_of_lt_of_le hlt hb.size, fun i hi => (hb.cell (p := ⟨b, o + i, none⟩) hlt).trans (hc i hi)⟩⟩
theorem own_tx {w : World} {B n : Nat} {v : Value} {l : List (List UInt8)} (hn : n = l.length) (h : w.ownsRow B 9 1 v n (l.map encStr)) : ∃ a c, v = .slice a l.length c ∧ TxAt w a c l := by
  subst hn
  rcases h.2 with ⟨rfl, h0⟩ | ⟨g, c, cur, rfl, _, _, hc, hm, _⟩
  · exact ⟨none, 0, by rw [h0], by omega, Nat.zero_le _, fun h1 => by omega⟩
  · refine ⟨_, c, rfl, hc, hm, fun h1 => ?_⟩
    obtain ⟨g', c', cur', e, _, hg, _, _, hcell⟩ := own_some h h1
    cases e
    refine ⟨_, 0, rfl, (Array.getElem?_eq_some_iff.1 hg).1, fun i hi => ?_⟩
    have := hcell i (encStr l[i]) (by simp [hi])
    simpa using this

set_option maxRecDepth 100000 in
theorem Texts_any (l l' : List (List UInt8)) (a a' : Option Addr) (c c' : Nat) (w : World) (h : TxAt w a c l) (h' : TxAt w a' c' l') (hl : l.length ≤ 1099511627776) (hl' : l'.length ≤ 1099511627776) :
    Calls Try.prog 44 #[.slice a l.length c, .slice a' l'.length c'] w fun e w' => ∃ r, e = .returned (.bool r) ∧ (r = true ↔ l = l') ∧ Below w.heap.size w w' := by
  by_cases hL : l.length = l'.length
  · have HA := Lib.hid h
    have HA' := Lib.hid h'
    have HT : Hid (l.take l.length = l'.take l.length → l = l') := Lib.hid fun e => by rwa [List.take_length, hL, List.take_length] at e
    have HN : Hid (∀ (j : Nat) (x y : List UInt8), l[j]? = some x → l'[j]? = some y → x ≠ y → ¬ l = l') := Lib.hid fun j x y h1 h2 hne e => hne (by subst e; rw [h1] at h2; exact Option.some.inj h2)
    have hlc := h.lc
    have hlc' := h'.lc
    have HL2 : Hid (l'.length = l.length) := Lib.hid hL.symm
    rw [← hL] at hlc' ⊢
    clear h h' hL hl'
    generalize hLd : l.length = L at *
    have HL := Lib.hid hLd
    clear hLd
    go_enter Try.func44, Try.ntmps44
    go_wp2
    go_loopw [5] (fun i wr => ∃ j : Nat, i = .int .i64 j ∧ j ≤ L ∧ Hid (l.take j = l'.take j) ∧ Below w.heap.size w wr) (fun i _ => L - (intOf i).toNat)
    case atStart => exact ⟨0, rfl, Nat.zero_le _, Lib.hid rfl, Below.refl _ _⟩
    case round =>
      obtain ⟨j, rfl, hjl, HE, hb⟩ := hrel
      have HB := Lib.hid hb
      by_cases hj : j < L
      · have hj1 : j < l.length := by rw [HL.out]; exact hj
        have hj2 : j < l'.length := by rw [HL2.out]; exact hj
        obtain ⟨b, o, rfl, hlt, hc⟩ := (HA.out.below hb).at_ (by omega)
        obtain ⟨b', o', rfl, hlt', hc'⟩ := (HA'.out.below hb).at_ (by omega)
        have x0 := hc j hj1
        have y0 := hc' j hj2
        have HJ : Hid (l[j] = l'[j] → l.take (j + 1) = l'.take (j + 1)) := Lib.hid fun e => by rw [List.take_succ_eq_append_getElem hj1, List.take_succ_eq_append_getElem hj2, HE.out, e]
        have HNE := Lib.hid (HN.out j _ _ (List.getElem?_eq_getElem hj1) (List.getElem?_eq_getElem hj2))
        have hj0 : (0 : Int) ≤ (j : Int) := by omega
        have hjL : (j : Int) < (L : Int) := by omega
        have hw1 : IntKind.i64.wrap ((j : Int) + 1) = (j : Int) + 1 := IntWalk.i64_in _ (by omega)
        have HD := Lib.hid (fun nq => below_drewN (Below.refl wr.heap.size wr) nq)
        clear hc hc' hb
        generalize l[j] = x at *
        generalize l'[j] = y at *
        by_cases hx : x = y
        · subst hx
          have HE2 := Lib.hid (HJ.out rfl)
          go_wp2
          go_quiet (fail)
          clear hw1
          go_wp2
          go_roundw
          case rel => exact ⟨j + 1, by go_num, by omega, HE2, HB.out.trans ((HD.out _).mono HB.out.size)⟩
          case measure => simp [intOf]; omega
        · have hx' : (x == y) = false := by simpa using hx
          have HR := Lib.hid (HNE.out hx)
          clear hx
          go_wp2
          go_quiet (fail)
          clear hw1
          go_wp2
          go_ret
          exact ⟨false, rfl, ⟨(fun h => nomatch h), fun h => (HR.out h).elim⟩, HB.out.trans ((HD.out _).mono HB.out.size)⟩
      · have hje : j = L := by omega
        have HR : Hid (l = l') := Lib.hid (HT.out (by have := HE.out; rwa [hje] at this))
        clear hje hb
        go_wp2
        go_ret
        exact ⟨true, rfl, ⟨fun _ => HR.out, fun _ => rfl⟩, HB.out⟩
  · have hL' : ((l.length : Int) != l'.length) = true := by simp; omega
    have HN : Hid (¬ l = l') := Lib.hid fun e => hL (by rw [e])
    clear hL h h'
    go_enter Try.func44, Try.ntmps44
    go_wp2
    go_ret
    exact ⟨false, rfl, ⟨(fun h => nomatch h), fun h => (HN.out h).elim⟩, Below.refl _ _⟩
end Go.Proofs.Ytcjhgefkbnbmnaa
