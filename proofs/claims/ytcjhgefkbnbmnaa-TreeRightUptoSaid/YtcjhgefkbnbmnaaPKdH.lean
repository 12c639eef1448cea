/- The map of the variables' Ops; sound. -/
import Derived.Sort.QuietTacIn
import Derived.Maps.Views
import Derived.Test.YtcjhgefkbnbmnaaPC
namespace Go.Proofs.Ytcjhgefkbnbmnaa
open Go.RowKit Go.Shelf LM
set_option linter.unusedVariables false
attribute [local go_sem] Oper.semAt_some

/-- The map in block b holds the Op with which each number came last among pre. -/
def MapIs (W : World) (b n : Nat) (pre : List (Hd × Fo)) : Prop :=
  ∃ D : DataW Unit, W.ownsMap Try.prog 3 (plainElem Try.prog 22) b n D ∧ Maps.IsMap D ∧
    ∀ x : Int, Maps.has D (.int .i64 x) = (opsOf pre x).isSome ∧ D.atKey (.int .i64 x) (.lit (.int .u8 0)) = .lit (.int .u8 ((opsOf pre x).getD 0))

theorem MapIs.start (w : World) : MapIs (w.alloc (.map #[] 0)) w.heap.size 0 [] :=
  ⟨.map [], World.ownsMap_made w _ _ _, by simp [Maps.IsMap], fun x => ⟨rfl, rfl⟩⟩
theorem MapIs.kept {W W' : World} {row : Option Nat} {b n : Nat} {pre : List (Hd × Fo)} (h : MapIs W b n pre) (hg : W.grownBy W' row) (hne : some b ≠ row) : MapIs W' b n pre := by
  obtain ⟨D, h1, h2, h3⟩ := h
  exact ⟨D, h1.kept hg hne, h2, h3⟩
theorem MapIs.drew {W : World} {b n : Nat} {pre : List (Hd × Fo)} (h : MapIs W b n pre) : MapIs W.drew b n pre := by
  obtain ⟨D, h1, h2, h3⟩ := h
  exact ⟨D, h1.drew, h2, h3⟩

theorem MapIs.drewN {W : World} {b n : Nat} {pre : List (Hd × Fo)} (h : MapIs W b n pre) (m : Nat) : MapIs (W.drewN m) b n pre := by
  induction m generalizing W with
  | zero => exact h
  | succ m ih => exact ih h.drew

theorem MapIs.look {W : World} {b n : Nat} {pre : List (Hd × Fo)} (h : MapIs W b n pre) {x : Int} (hx : (Lit.int .i64 x).wf = true) :
    (Instr.lookup 127 (.map (some b)) (.int .i64 x) true).run Try.prog W = .ok (.tuple #[.int .u8 ((opsOf pre x).getD 0), .bool (opsOf pre x).isSome]) W := by
  obtain ⟨D, h1, h2, h3⟩ := h
  obtain ⟨v, ps, hr, hv⟩ := h1.look_ok (Maps.int_keyed Try.underlying3) Try.underlying127 (Try.zeroValue22 _) (plainElem_int Try.underlying22 (by decide)) (Maps.keyOf_int_mk Try.underlying3 hx)
  obtain ⟨c, rfl, hc, _⟩ := plainElem_int_inv Try.underlying22 hv
  rw [(h3 x).2] at hc
  simp only [Prod.mk.injEq, DataW.lit.injEq, Lit.int.injEq, true_and] at hc
  rw [hr, (h3 x).1, hc.1]

theorem MapIs.skip {W : World} {b n : Nat} {pre : List (Hd × Fo)} (h : MapIs W b n pre) {p : Hd × Fo} (hp : isVarB p.1.op = false) : MapIs W b (n + 1) (pre ++ [p]) := by
  obtain ⟨D, h1, h2, h3⟩ := h
  refine ⟨D, h1.mono (by omega), h2, fun x => ?_⟩
  rw [opsOf_snoc, if_neg (by simp [hp])]
  exact h3 x

theorem MapIs.store {W : World} {b n : Nat} {pre : List (Hd × Fo)} (h : MapIs W b n pre) {p : Hd × Fo} (hp : isVarB p.1.op = true) (hok : p.1.ok) (hn : n < maxLen) :
    ∃ w', (Instr.mapUpdate 127 (.map (some b)) (.int .i64 p.1.n) (.int .u8 p.1.op)).run Try.prog W = .ok () w' ∧ MapIs w' b (n + 1) (pre ++ [p]) ∧ W.grownBy w' (some b) := by
  obtain ⟨D, h1, h2, h3⟩ := h
  have hx : (Lit.int .i64 p.1.n).wf = true := by have := hok.n0; have := hok.n1; simp [Lit.wf, IntKind.min, IntKind.max, IntKind.signed, IntKind.bits]; omega
  have ho : (Lit.int .u8 p.1.op).wf = true := by have := hok.op0; have := hok.op1; simp [Lit.wf, IntKind.min, IntKind.max, IntKind.signed, IntKind.bits]; omega
  obtain ⟨w', hr, hown, hg⟩ := h1.update (Maps.int_keyed Try.underlying3) Try.underlying127 hn (Maps.keyOf_int_mk Try.underlying3 hx) (plainElem_int Try.underlying22 ho)
  refine ⟨w', hr, ⟨_, hown, ?_, fun x => ?_⟩, hg⟩
  · exact h2.put _ _
  · rw [opsOf_snoc]
    by_cases hxn : p.1.n = x
    · subst hxn
      have hkl : WideAt.IsKeyLit (.int .i64 p.1.n) := by simp [WideAt.IsKeyLit]
      rw [if_pos ⟨hp, rfl⟩, Maps.has_put_same h2 hkl, Maps.atKey_put_same h2 hkl]
      exact ⟨rfl, rfl⟩
    · rw [if_neg (fun hc => hxn hc.2)]
      have hne : (Lit.int .i64 x) ≠ .int .i64 p.1.n := fun e => by cases e; exact hxn rfl
      rw [Maps.has_put_other hne, Maps.atKey_put_other hne]
      exact h3 x

theorem Tch.of_below {n₀ : Nat} {D : Nat → Prop} {W W' : World} (hb : Below W.heap.size W W') : Tch n₀ D D W W' := ⟨hb.size, fun b _ hlt _ => hb.block b hlt, fun b h => .inl h, fun b h => h⟩
theorem boxed_below {W W' : World} {B t : Nat} {v : Value} (h : Boxed W B t v) (hb : Below W.heap.size W W') : Boxed W' B t v := (hb.block B h.lt).trans h
theorem MapIs.below {W W' : World} {b n : Nat} {pre : List (Hd × Fo)} (h : MapIs W b n pre) (hb : Below W.heap.size W W') : MapIs W' b n pre := by
  obtain ⟨D, h1, h2, h3⟩ := h
  exact ⟨D, h1.kept (row := none) ⟨hb.os, hb.tape, hb.output, hb.size, fun k hk _ => hb.block k hk⟩ (by simp), h2, h3⟩

theorem opIn_round {F : Fence} {n : Nat} {P : Program} {o : Oper} {a : Act} {w : World} {K : Act → World → Prop} {Q : Exit → Act → World → Prop} {l : Nat} (hro : F.round = none) (hd : ∀ c, o.op ≠ .defer c)
    (h : o.wpIn F n P a w K Q) : o.wpIn (F.inRound l) n P a w K Q := by
  unfold Oper.wpIn at *
  rw [hro] at h
  have e : o.semAt (F.inRound l).round a.eval = o.semAt none a.eval := by rw [Fence.inRound_round, Oper.semAt_some _ _ _ hd, Oper.semAt_none]
  rw [e]; exact h
theorem anyIn_round {F : Fence} {n : Nat} {P : Program} {ops : Array Oper} {Q : Exit → Act → World → Prop} {md : Region.Mode} {l : Nat} (hro : F.round = none) (hd : ∀ (i : Nat) (o : Oper), ops[i]? = some o → ∀ c, o.op ≠ .defer c) :
    ∀ (fuel : Nat) (listed : Array Bool) (a : Act) (w : World), wpAnyIn F n P md ops Q fuel listed a w → wpAnyIn (F.inRound l) n P md ops Q fuel listed a w := by
  intro fuel
  induction fuel with
  | zero => intro listed a w h; exact h
  | succ fuel ih =>
    intro listed a w h
    refine ⟨h.1, fun i hi => ?_⟩
    have h2 := wpOpIn_mono (ih _) (h.2 i hi)
    unfold wpOpIn at *
    cases ho : ops[i]? with
    | none => simp only [ho] at h2 ⊢; exact h2
    | some o =>
      simp only [ho] at h2 ⊢
      split
      · rename_i hw; simp only [hw, if_true] at h2; exact opIn_round hro (hd i o ho) h2
      · rename_i hw; simp only [hw] at h2; exact h2
/-- A region that draws, in a round: asked as outside a round. -/
theorem region_round {id : Nat} {F : Fence} {n : Nat} {P : Program} {ops : Array Oper} {Q : Exit → Act → World → Prop} {a : Act} {w : World} {r : Nat} (hro : F.round = none) (hm : P.follows .mixedOrders = true)
    (hd : ∀ (i : Nat) (o : Oper), ops[i]? = some o → ∀ c, o.op ≠ .defer c) (h : wpAnyIn F n P .any ops Q ops.size (Array.replicate ops.size false) a w.drew) : (Code.region id ops true).wpIn (F.inRound r) n P Q a w :=
  wpIn_region_any hm (anyIn_round hro hd _ _ _ _ h)
theorem region_quiet_round {id : Nat} {F : Fence} {n : Nat} {P : Program} {Q : Exit → Act → World → Prop} {a : Act} {w : World} {l : List Oper} {r : Nat} (hro : F.round = none) (hm : P.follows .mixedOrders = true) (hB : Region.lexB .any l.toArray = true)
    (hd : ∀ (i : Nat) (o : Oper), l.toArray[i]? = some o → ∀ c, o.op ≠ .defer c)
    (h : wpQuietIn F n P l.toArray (fun w' => ∃ n, w' = w.drewN n) (fun a' => ∀ w', (∃ n, w' = w.drewN n) → Q .normal a' w') l a) : (Code.region id l.toArray true).wpIn (F.inRound r) n P Q a w := by
  refine region_round hro hm hd ?_
  simp only [Region.lexB, Bool.and_eq_true] at hB
  refine wpAnyIn_of_quiet (C := fun w' => ∃ n, w' = w.drewN n) (Q := fun a' => ∀ w', (∃ n, w' = w.drewN n) → Q .normal a' w') hro (fun _ w' hw' h => h w' hw') _ _ _ _ ⟨1, rfl⟩ ?_
  have := wpAnyQIn_lex (F := F) (n := n) (C := fun w' => ∃ n, w' = w.drewN n) (md := .any) hB.1 l.toArray.toList 0 (Array.replicate l.toArray.size false) a (by simp) (by simpa using hB.2) (by simpa using h)
  simpa using this
/-- No operation of a list that is written out is a 'defer'. -/
def noDefer (l : List Oper) : Bool := l.all fun o => match o.op with | .defer _ => false | _ => true
theorem noDefer_spec {l : List Oper} (h : noDefer l = true) : ∀ (i : Nat) (o : Oper), l.toArray[i]? = some o → ∀ c, o.op ≠ .defer c := by
  intro i o ho c hc
  have hm : o ∈ l := by
    have : l[i]? = some o := by simpa using ho
    exact List.mem_of_getElem? this
  have := List.all_eq_true.1 h o hm
  rw [hc] at this
  cases this

theorem grown_of {W w2 w3 : World} {m : Nat} {row : Option Nat} (hb : Below W.heap.size W w2) (hg : (w2.drewN m).grownBy w3 row) : W.grownBy w3 row :=
  ⟨hg.os.trans hb.os, hg.tape.trans hb.tape, hg.output.trans hb.output, Nat.le_trans hb.size hg.size, fun k hk hne => (hg.block k (Nat.lt_of_lt_of_le hk hb.size) hne).trans (hb.block k hk)⟩

/-- All orders of a region come to one: what follows is walked once. -/
theorem wpIn_once {F : Fence} {n : Nat} {P : Program} {c : Code} {Q : Exit → Act → World → Prop} {a a0 : Act} {w w0 : World} (h : c.wpIn F n P (fun e a' W' => e = .normal ∧ a' = a0 ∧ W' = w0) a w) (hQ : Q .normal a0 w0) : c.wpIn F n P Q a w :=
  wpIn_mono h fun _ _ _ h => by obtain ⟨rfl, rfl, rfl⟩ := h; exact hQ

/-- Does a variable keep to the sort in which its number came? -/
def varB (pre : List (Hd × Fo)) (p : Hd × Fo) : Bool := !isVarB p.1.op || (match opsOf pre p.1.n with | some o => decide (o = p.1.op) | Option.none => true)
theorem soundFrom_cons (pre : List (Hd × Fo)) (p : Hd × Fo) (r : List (Hd × Fo)) : soundFrom pre (p :: r) = (fitsB p.1 p.2 && varB pre p && soundFrom (pre ++ [p]) r) := rfl
theorem varB_no {pre : List (Hd × Fo)} {p : Hd × Fo} (h : isVarB p.1.op = false) : varB pre p = true := by simp [varB, h]
theorem varB_none {pre : List (Hd × Fo)} {p : Hd × Fo} (h : opsOf pre p.1.n = Option.none) : varB pre p = true := by simp [varB, h]
theorem varB_some {pre : List (Hd × Fo)} {p : Hd × Fo} {o : Int} (hv : isVarB p.1.op = true) (h : opsOf pre p.1.n = some o) : varB pre p = decide (o = p.1.op) := by simp [varB, h, hv]

/-- What sound keeps while it goes on: behind pre nothing has failed. -/
structure SoundA (w : World) (all : List (Hd × Fo)) (pre : List (Hd × Fo)) (W : World) : Prop where
  res : Boxed W (w.heap.size + 1) 4 (.bool false)
  mbox : Boxed W (w.heap.size + 1 + 1 + 1) 127 (.map (some (w.heap.size + 1 + 1)))
  mis : MapIs W (w.heap.size + 1 + 1) pre.length pre
  go : ∀ rest, all = pre ++ rest → soundFrom [] all = soundFrom pre rest

set_option maxRecDepth 100000 in
set_option maxHeartbeats 2000000 in
theorem sound_any (h : Hd) (f : Fo) (q : Option Addr) (cap : Nat) (w : World) (hh : h.ok) (hf : SlF w q cap f) (hok : f.ok) (hsz : 1 + f.size ≤ 1099511627776) :
    Calls Try.prog 86 #[.agg #[.int .u8 h.op, .string h.name, .int .i64 h.n, .slice q f.len cap]] w fun e w' => e = .returned (.bool (soundFrom [] (flatL [(h, f)]))) ∧ Below w.heap.size w w' := by
  refine (callsIn_wide (n := 9)).1 ?_
  have hst := boxed_st w h f q cap hf
  have hall := length_one h f
  have HP := Lib.hid parts_any
  have hmm := @run_makeMap Try.prog
  refine callsIn_of_wp_marks Try.func86 rfl trivial ?_ rfl
  simp only [Try.ntmps86, List.size_toArray, List.length_cons, List.length_nil, Nat.reduceAdd, Nat.reduceSub, Array.replicate_succ, Array.replicate_zero, List.push_toArray, List.append_toArray, List.nil_append, List.cons_append]
  gi_wp2_with (refine ⟨trivial, ?_⟩; gi_at_call 57; refine (callsIn_wide.2 (HP.out _ _)).mono ?_; rintro e w' ⟨rfl, rfl⟩)
  refine range_read rfl (by omega) (Bn := w.heap.size + 1 + 1 + 1 + 1) rfl trivial (w.heap.size, 0) ?c1 rfl _ ?c2 (h, f) hst ?c3 ?c4
    (fun pre D W => SoundA w (flatL [(h, f)]) pre W) (fun c pre D W => c = .ret ∧ Boxed W (w.heap.size + 1) 4 (.bool false) ∧ soundFrom [] (flatL [(h, f)]) = false)
    (fun pre D X Y row hx hg hr => ⟨hx.res.kept hg (fun e => by have := (hr _ e.symm).1; simp at this; omega), hx.mbox.kept hg (fun e => by have := (hr _ e.symm).1; simp at this; omega), hx.mis.kept hg (fun e => by have := (hr _ e.symm).1; simp at this; omega), hx.go⟩)
    (fun c pre D X Y row hx hg hr => ⟨hx.1, hx.2.1.kept hg (fun e => by have := (hr _ e.symm).1; simp at this; omega), hx.2.2⟩) ?c5
    (fun p => { tmps := #[.agg #[.int .u8 h.op, .string h.name, .int .i64 h.n, .slice q f.len cap], .pointer (some ⟨w.heap.size, 0, none⟩), .pointer (some ⟨w.heap.size + 1, 0, none⟩), .pointer (some ⟨w.heap.size + 1 + 1 + 1, 0, none⟩), .pointer (some ⟨p.1, p.2, none⟩), undef, undef,
      .map (some (w.heap.size + 1 + 1)), .func (.func 88) #[] #[.pointer (some ⟨w.heap.size + 1 + 1 + 1 + 1, 0, none⟩)], .pointer (some ⟨p.1, p.2, none⟩), undef, undef, undef, undef, undef, undef, undef, undef, undef, undef, undef, undef, undef, undef, undef, undef, undef, undef, undef, undef, undef, undef,
      undef, undef, undef, undef, undef, undef, undef, undef, undef, undef, undef, undef, undef, undef, undef, undef], defers := [] }) ?assign ?body ?done ?stop
  case assign =>
    intro l p W K hK
    gi_wp2
    simpa using hK
  case c1 => exact Boxed.cell (by have := Boxed.new ((((w.alloc (.cells #[.int .u8 h.op, .string h.name, .int .i64 h.n, .slice q f.len cap] 25)).alloc (.cells #[.bool false] 4)).alloc (.map #[] 0)).alloc (.cells #[.map (some (w.heap.size + 1 + 1))] 127)) 64 (.pointer (some ⟨w.heap.size, 0, none⟩)); simpa only [World.size_alloc] using this)
  case c2 => exact ((((Below.refl _ _).alloc (by simp) _).alloc (by simp) _).alloc (by simp) _).alloc (by simp) _
  case c3 => intro t ht; simp at ht; subst ht; exact ⟨hh, hok⟩
  case c4 => rw [hall]; exact hsz
  case c5 =>
    have b1 := Boxed.new (w.alloc (.cells #[.int .u8 h.op, .string h.name, .int .i64 h.n, .slice q f.len cap] 25)) 4 (.bool false)
    have b2 := Boxed.new (((w.alloc (.cells #[.int .u8 h.op, .string h.name, .int .i64 h.n, .slice q f.len cap] 25)).alloc (.cells #[.bool false] 4)).alloc (.map #[] 0)) 127 (.map (some (w.heap.size + 1 + 1)))
    have b3 := MapIs.start ((w.alloc (.cells #[.int .u8 h.op, .string h.name, .int .i64 h.n, .slice q f.len cap] 25)).alloc (.cells #[.bool false] 4))
    simp only [World.size_alloc] at b1 b2 b3
    exact ⟨((b1.alloc _).alloc _).alloc _, b2.alloc _, (b3.kept (World.grownBy_alloc _ _ none) (by simp)).kept (World.grownBy_alloc _ _ none) (by simp), fun rest e => by rw [e]; rfl⟩
  case body =>
    rintro l pre x rest p D W he hB ⟨q1, cap1, hhd, hsl⟩ hlt hx1 hx2 hW hD hA
    have HC := Lib.hid (fits_any x.1 x.2 q1 cap1 W hx1 hsl hx2)
    have c0 := hhd.c0
    have c1 := hhd.c1
    have c2 := hhd.c2
    have c3 := hhd.c3
    have hpl := hhd.lt
    have hW' : w.heap.size + 5 ≤ W.heap.size := by simp at hW; omega
    have HA := Lib.hid hA
    have HH := Lib.hid hhd
    have HE := Lib.hid he
    have h00 := hx1.op0
    have h01 := hx1.op1
    have HS := Lib.hid (hA.go (x :: rest) he)
    have hN := hx1.n0
    have hN' := hx1.n1
    have hlen : pre.length + 1 ≤ 1099511627776 := by rw [he] at hall; simp at hall; omega
    clear hhd hA he hst
    cases hfit : fitsB x.1 x.2
    · rw [hfit] at HC
      have hsn : soundFrom [] (flatL [(h, f)]) = false := by rw [HS.out]; simp [soundFrom, hfit]
      have HSN := Lib.hid hsn
      clear hsn hfit
      generalize x.1.op = o1 at *
      generalize x.1.name = o2 at *
      generalize x.1.n = o3 at *
      generalize x.2.len = o4 at *
      gi_wp2_with (refine ⟨trivial, ?_⟩; gi_at_call 109; refine (CallsIn.inRound l (callsIn_wide.2 HC.out)).mono ?_; rintro e w2 ⟨rfl, hb2⟩; have HB2 := Lib.hid hb2; have hbx := (boxed_below HA.out.res hb2).cell; have hbf := (boxed_below HA.out.res hb2).frozen; clear hb2)
      exact ⟨D, (Tch.of_below HB2.out).trans (Tch.set _ (by simp)), (HB2.out.mono (by simp; omega)).setCell (p := ⟨w.heap.size + 1, 0, none⟩) (by simp) _, rfl, (boxed_below HA.out.res HB2.out).set _, HSN.out⟩
    · rw [hfit] at HC
      have HV := Lib.hid fun w => isVar_any x.1.op w h00 h01
      have hstep : soundFrom [] (flatL [(h, f)]) = (varB pre x && soundFrom (pre ++ [x]) rest) := by rw [HS.out, soundFrom_cons, hfit, Bool.true_and]
      have HST := Lib.hid hstep
      clear hstep hfit
      cases hv : isVarB x.1.op
      · rw [hv] at HV
        have hst2 : soundFrom [] (flatL [(h, f)]) = soundFrom (pre ++ [x]) rest := by rw [HST.out, varB_no hv]; simp
        have HST2 := Lib.hid hst2
        have HVF := Lib.hid hv
        clear hst2 hv
        gi_wp2_with (first
          | (refine ⟨trivial, ?_⟩; gi_at_call 109; refine (CallsIn.inRound l (callsIn_wide.2 HC.out)).mono ?_; rintro e w2 ⟨rfl, hb2⟩; have HB2 := Lib.hid hb2; have c0' := (hb2.cell (p := ⟨p.1, p.2, none⟩) hpl).trans c0; clear hb2)
          | (refine ⟨trivial, ?_⟩; gi_at_call 58; refine (CallsIn.inRound l (callsIn_wide.2 (HV.out _))).mono ?_; rintro e w3 ⟨rfl, rfl⟩))
        refine ⟨D, Tch.of_below HB2.out, HB2.out.mono (by simp; omega), boxed_below HA.out.res HB2.out, boxed_below HA.out.mbox HB2.out, ?_, fun r e => ?_⟩
        · have := (HA.out.mis.below HB2.out).skip HVF.out
          simpa using this
        · rw [HST2.out]
          have e2 := HE.out
          rw [e] at e2
          have e3 : r = rest := by simpa using e2
          rw [e3]
      · rw [hv] at HV
        have HVT := Lib.hid hv
        have hwf : (Lit.int .i64 x.1.n).wf = true := by simp [Lit.wf, IntKind.min, IntKind.max, IntKind.signed, IntKind.bits]; omega
        have HWF := Lib.hid hwf
        clear hv hwf
        cases ho : opsOf pre x.1.n with
        | none =>
          have hst2 : soundFrom [] (flatL [(h, f)]) = soundFrom (pre ++ [x]) rest := by rw [HST.out, varB_none ho]; simp
          have HST2 := Lib.hid hst2
          have HO := Lib.hid ho
          clear hst2 ho
          gi_wp2_with (first
            | (refine ⟨trivial, ?_⟩; gi_at_call 109; refine (CallsIn.inRound l (callsIn_wide.2 HC.out)).mono ?_; rintro e w2 ⟨rfl, hb2⟩; have HB2 := Lib.hid hb2; have c0' := (hb2.cell (p := ⟨p.1, p.2, none⟩) hpl).trans c0; have c2' := (hb2.cell (p := ⟨p.1, p.2 + 2, none⟩) hpl).trans c2; have hmb := (boxed_below HA.out.mbox hb2).cell; clear hb2)
            | (refine ⟨trivial, ?_⟩; gi_at_call 58; refine (CallsIn.inRound l (callsIn_wide.2 (HV.out _))).mono ?_; rintro e w3 ⟨rfl, rfl⟩))
          have hlk := fun m => ((HA.out.mis.below HB2.out).drewN m).look HWF.out
          rw [HO.out] at hlk
          simp only [Option.getD_none, Option.isSome_none] at hlk
          refine region_quiet_round rfl (by kernel_rfl) (by kernel_rfl) (noDefer_spec (by kernel_rfl)) ?_
          repeat (quiet_step_in (fail))
          refine wpQuietIn_nil ?_
          intro _ hw'
          obtain ⟨nq, hw''⟩ := hw'
          subst hw''
          clear hlk
          gi_wp2
          obtain ⟨w3, hup, hm3, hg3⟩ := ((HA.out.mis.below HB2.out).drewN (nq + 1)).store HVT.out hx1 (by have := hlen; unfold maxLen; omega)
          have HM3 := Lib.hid hm3
          clear hm3
          refine wpIn_mono (Q := fun e _ W' => e = Exit.normal ∧ W' = w3) ?_ ?_
          · refine region_round rfl (by kernel_rfl) (noDefer_spec (by kernel_rfl)) ?_
            refine wpAnyIn_take (i := 1) (v := _) rfl rfl (by kernel_rfl) (by kernel_rfl) (by kernel_rfl) (fun _ _ _ h => h) ⟨Or.inl ⟨by rfl, fun w => by go_simp; with_reducible rfl⟩, fun _ => rfl⟩ ?_
            refine wpAnyIn_take (i := 2) (v := _) rfl rfl (by kernel_rfl) (by kernel_rfl) (by kernel_rfl) (fun _ _ _ h => h) ⟨Or.inl ⟨by rfl, fun w => by go_simp; with_reducible rfl⟩, fun _ => rfl⟩ ?_
            refine wpAnyIn_take (i := 3) (v := _) rfl rfl (by kernel_rfl) (by kernel_rfl) (by kernel_rfl) (fun _ _ _ h => h) ⟨Or.inl ⟨by rfl, fun w => by go_simp; with_reducible rfl⟩, fun _ => rfl⟩ ?_
            refine wpAnyIn_take (i := 5) (v := _) rfl rfl (by kernel_rfl) (by kernel_rfl) (by kernel_rfl) (fun _ _ _ h => h) ⟨Or.inl ⟨by rfl, fun w => by go_simp; with_reducible rfl⟩, fun _ => rfl⟩ ?_
            refine wpAnyIn_take (i := 6) (v := _) rfl rfl (by kernel_rfl) (by kernel_rfl) (by kernel_rfl) (fun _ _ _ h => h) ⟨Or.inl ⟨by rfl, fun w => by go_simp; with_reducible rfl⟩, fun _ => rfl⟩ ?_
            refine wpAnyIn_take (i := 7) (v := _) rfl rfl (by kernel_rfl) (by kernel_rfl) (by kernel_rfl) (fun _ _ _ h => h) ⟨Or.inl ⟨by rfl, fun w => by go_simp; with_reducible rfl⟩, fun _ => rfl⟩ ?_
            refine wpAnyIn_ready (rs := [0, 4, 8]) (by kernel_rfl) (by simp) (AllReadyIn.cons rfl (fun K hK => ?_) (AllReadyIn.cons rfl (fun K hK => ?_) (AllReadyIn.cons rfl (fun K hK => ?_) AllReadyIn.nil)))
            · (go_simp; refine hK _ _ ?_; clear hK K)
              refine wpAnyIn_ready (rs := [4, 8]) (by kernel_rfl) (by simp) (AllReadyIn.cons rfl (fun K hK => ?_) (AllReadyIn.cons rfl (fun K hK => ?_) AllReadyIn.nil))
              · (go_simp; refine hK _ _ ?_; clear hK K)
                refine wpAnyIn_ready (rs := [8]) (by kernel_rfl) (by simp) (AllReadyIn.cons rfl (fun K hK => ?_) AllReadyIn.nil)
                · (go_simp; refine hK _ _ ?_; clear hK K)
                  refine wpAnyIn_ready (rs := [9]) (by kernel_rfl) (by simp) (AllReadyIn.cons rfl (fun K hK => ?_) AllReadyIn.nil)
                  (go_simp; refine hK _ _ ?_; clear hK K)
                  refine wpAnyIn_done (by kernel_rfl) ?_ _
                  exact ⟨rfl, rfl⟩
              · (go_simp; refine hK _ _ ?_; clear hK K)
                refine wpAnyIn_ready (rs := [4]) (by kernel_rfl) (by simp) (AllReadyIn.cons rfl (fun K hK => ?_) AllReadyIn.nil)
                · (go_simp; refine hK _ _ ?_; clear hK K)
                  refine wpAnyIn_ready (rs := [9]) (by kernel_rfl) (by simp) (AllReadyIn.cons rfl (fun K hK => ?_) AllReadyIn.nil)
                  (go_simp; refine hK _ _ ?_; clear hK K)
                  refine wpAnyIn_done (by kernel_rfl) ?_ _
                  exact ⟨rfl, rfl⟩
            · (go_simp; refine hK _ _ ?_; clear hK K)
              refine wpAnyIn_ready (rs := [0, 8]) (by kernel_rfl) (by simp) (AllReadyIn.cons rfl (fun K hK => ?_) (AllReadyIn.cons rfl (fun K hK => ?_) AllReadyIn.nil))
              · (go_simp; refine hK _ _ ?_; clear hK K)
                refine wpAnyIn_ready (rs := [8]) (by kernel_rfl) (by simp) (AllReadyIn.cons rfl (fun K hK => ?_) AllReadyIn.nil)
                · (go_simp; refine hK _ _ ?_; clear hK K)
                  refine wpAnyIn_ready (rs := [9]) (by kernel_rfl) (by simp) (AllReadyIn.cons rfl (fun K hK => ?_) AllReadyIn.nil)
                  (go_simp; refine hK _ _ ?_; clear hK K)
                  refine wpAnyIn_done (by kernel_rfl) ?_ _
                  exact ⟨rfl, rfl⟩
              · (go_simp; refine hK _ _ ?_; clear hK K)
                refine wpAnyIn_ready (rs := [0]) (by kernel_rfl) (by simp) (AllReadyIn.cons rfl (fun K hK => ?_) AllReadyIn.nil)
                · (go_simp; refine hK _ _ ?_; clear hK K)
                  refine wpAnyIn_ready (rs := [9]) (by kernel_rfl) (by simp) (AllReadyIn.cons rfl (fun K hK => ?_) AllReadyIn.nil)
                  (go_simp; refine hK _ _ ?_; clear hK K)
                  refine wpAnyIn_done (by kernel_rfl) ?_ _
                  exact ⟨rfl, rfl⟩
            · (go_simp; refine hK _ _ ?_; clear hK K)
              refine wpAnyIn_ready (rs := [0, 4]) (by kernel_rfl) (by simp) (AllReadyIn.cons rfl (fun K hK => ?_) (AllReadyIn.cons rfl (fun K hK => ?_) AllReadyIn.nil))
              · (go_simp; refine hK _ _ ?_; clear hK K)
                refine wpAnyIn_ready (rs := [4]) (by kernel_rfl) (by simp) (AllReadyIn.cons rfl (fun K hK => ?_) AllReadyIn.nil)
                · (go_simp; refine hK _ _ ?_; clear hK K)
                  refine wpAnyIn_ready (rs := [9]) (by kernel_rfl) (by simp) (AllReadyIn.cons rfl (fun K hK => ?_) AllReadyIn.nil)
                  (go_simp; refine hK _ _ ?_; clear hK K)
                  refine wpAnyIn_done (by kernel_rfl) ?_ _
                  exact ⟨rfl, rfl⟩
              · (go_simp; refine hK _ _ ?_; clear hK K)
                refine wpAnyIn_ready (rs := [0]) (by kernel_rfl) (by simp) (AllReadyIn.cons rfl (fun K hK => ?_) AllReadyIn.nil)
                · (go_simp; refine hK _ _ ?_; clear hK K)
                  refine wpAnyIn_ready (rs := [9]) (by kernel_rfl) (by simp) (AllReadyIn.cons rfl (fun K hK => ?_) AllReadyIn.nil)
                  (go_simp; refine hK _ _ ?_; clear hK K)
                  refine wpAnyIn_done (by kernel_rfl) ?_ _
                  exact ⟨rfl, rfl⟩
          rintro _ _ _ ⟨rfl, rfl⟩
          gi_wp2
          have hg := grown_of HB2.out hg3
          refine ⟨D, Tch.grown hg (fun r e => by cases e; left; simp), (Below.refl _ _).grown hg (by simp; omega) (fun k e => by cases e; simp), HA.out.res.kept hg (by simp), HA.out.mbox.kept hg (by simp), by simpa using HM3.out, fun r e => ?_⟩
          rw [HST2.out]
          have e2 := HE.out
          rw [e] at e2
          have e3 : r = rest := by simpa using e2
          rw [e3]
        | some o =>
          by_cases hoe : o = x.1.op
          · subst hoe
            have hst2 : soundFrom [] (flatL [(h, f)]) = soundFrom (pre ++ [x]) rest := by rw [HST.out, varB_some HVT.out ho]; simp
            have HST2 := Lib.hid hst2
            have HO := Lib.hid ho
            clear hst2 ho
            gi_wp2_with (first
              | (refine ⟨trivial, ?_⟩; gi_at_call 109; refine (CallsIn.inRound l (callsIn_wide.2 HC.out)).mono ?_; rintro e w2 ⟨rfl, hb2⟩; have HB2 := Lib.hid hb2; have c0' := (hb2.cell (p := ⟨p.1, p.2, none⟩) hpl).trans c0; have c2' := (hb2.cell (p := ⟨p.1, p.2 + 2, none⟩) hpl).trans c2; have hmb := (boxed_below HA.out.mbox hb2).cell; clear hb2)
              | (refine ⟨trivial, ?_⟩; gi_at_call 58; refine (CallsIn.inRound l (callsIn_wide.2 (HV.out _))).mono ?_; rintro e w3 ⟨rfl, rfl⟩))
            have hlk := fun m => ((HA.out.mis.below HB2.out).drewN m).look HWF.out
            rw [HO.out] at hlk
            simp only [Option.getD_some, Option.isSome_some] at hlk
            refine region_quiet_round rfl (by kernel_rfl) (by kernel_rfl) (noDefer_spec (by kernel_rfl)) ?_
            repeat (quiet_step_in (fail))
            refine wpQuietIn_nil ?_
            intro _ hw'
            obtain ⟨nq, hw''⟩ := hw'
            subst hw''
            clear hlk
            gi_wp2
            obtain ⟨w3, hup, hm3, hg3⟩ := ((HA.out.mis.below HB2.out).drewN (nq + 1)).store HVT.out hx1 (by have := hlen; unfold maxLen; omega)
            have HM3 := Lib.hid hm3
            clear hm3
            refine wpIn_mono (Q := fun e _ W' => e = Exit.normal ∧ W' = w3) ?_ ?_
            · refine region_round rfl (by kernel_rfl) (noDefer_spec (by kernel_rfl)) ?_
              refine wpAnyIn_take (i := 1) (v := _) rfl rfl (by kernel_rfl) (by kernel_rfl) (by kernel_rfl) (fun _ _ _ h => h) ⟨Or.inl ⟨by rfl, fun w => by go_simp; with_reducible rfl⟩, fun _ => rfl⟩ ?_
              refine wpAnyIn_take (i := 2) (v := _) rfl rfl (by kernel_rfl) (by kernel_rfl) (by kernel_rfl) (fun _ _ _ h => h) ⟨Or.inl ⟨by rfl, fun w => by go_simp; with_reducible rfl⟩, fun _ => rfl⟩ ?_
              refine wpAnyIn_take (i := 3) (v := _) rfl rfl (by kernel_rfl) (by kernel_rfl) (by kernel_rfl) (fun _ _ _ h => h) ⟨Or.inl ⟨by rfl, fun w => by go_simp; with_reducible rfl⟩, fun _ => rfl⟩ ?_
              refine wpAnyIn_take (i := 5) (v := _) rfl rfl (by kernel_rfl) (by kernel_rfl) (by kernel_rfl) (fun _ _ _ h => h) ⟨Or.inl ⟨by rfl, fun w => by go_simp; with_reducible rfl⟩, fun _ => rfl⟩ ?_
              refine wpAnyIn_take (i := 6) (v := _) rfl rfl (by kernel_rfl) (by kernel_rfl) (by kernel_rfl) (fun _ _ _ h => h) ⟨Or.inl ⟨by rfl, fun w => by go_simp; with_reducible rfl⟩, fun _ => rfl⟩ ?_
              refine wpAnyIn_take (i := 7) (v := _) rfl rfl (by kernel_rfl) (by kernel_rfl) (by kernel_rfl) (fun _ _ _ h => h) ⟨Or.inl ⟨by rfl, fun w => by go_simp; with_reducible rfl⟩, fun _ => rfl⟩ ?_
              refine wpAnyIn_ready (rs := [0, 4, 8]) (by kernel_rfl) (by simp) (AllReadyIn.cons rfl (fun K hK => ?_) (AllReadyIn.cons rfl (fun K hK => ?_) (AllReadyIn.cons rfl (fun K hK => ?_) AllReadyIn.nil)))
              · (go_simp; refine hK _ _ ?_; clear hK K)
                refine wpAnyIn_ready (rs := [4, 8]) (by kernel_rfl) (by simp) (AllReadyIn.cons rfl (fun K hK => ?_) (AllReadyIn.cons rfl (fun K hK => ?_) AllReadyIn.nil))
                · (go_simp; refine hK _ _ ?_; clear hK K)
                  refine wpAnyIn_ready (rs := [8]) (by kernel_rfl) (by simp) (AllReadyIn.cons rfl (fun K hK => ?_) AllReadyIn.nil)
                  · (go_simp; refine hK _ _ ?_; clear hK K)
                    refine wpAnyIn_ready (rs := [9]) (by kernel_rfl) (by simp) (AllReadyIn.cons rfl (fun K hK => ?_) AllReadyIn.nil)
                    (go_simp; refine hK _ _ ?_; clear hK K)
                    refine wpAnyIn_done (by kernel_rfl) ?_ _
                    exact ⟨rfl, rfl⟩
                · (go_simp; refine hK _ _ ?_; clear hK K)
                  refine wpAnyIn_ready (rs := [4]) (by kernel_rfl) (by simp) (AllReadyIn.cons rfl (fun K hK => ?_) AllReadyIn.nil)
                  · (go_simp; refine hK _ _ ?_; clear hK K)
                    refine wpAnyIn_ready (rs := [9]) (by kernel_rfl) (by simp) (AllReadyIn.cons rfl (fun K hK => ?_) AllReadyIn.nil)
                    (go_simp; refine hK _ _ ?_; clear hK K)
                    refine wpAnyIn_done (by kernel_rfl) ?_ _
                    exact ⟨rfl, rfl⟩
              · (go_simp; refine hK _ _ ?_; clear hK K)
                refine wpAnyIn_ready (rs := [0, 8]) (by kernel_rfl) (by simp) (AllReadyIn.cons rfl (fun K hK => ?_) (AllReadyIn.cons rfl (fun K hK => ?_) AllReadyIn.nil))
                · (go_simp; refine hK _ _ ?_; clear hK K)
                  refine wpAnyIn_ready (rs := [8]) (by kernel_rfl) (by simp) (AllReadyIn.cons rfl (fun K hK => ?_) AllReadyIn.nil)
                  · (go_simp; refine hK _ _ ?_; clear hK K)
                    refine wpAnyIn_ready (rs := [9]) (by kernel_rfl) (by simp) (AllReadyIn.cons rfl (fun K hK => ?_) AllReadyIn.nil)
                    (go_simp; refine hK _ _ ?_; clear hK K)
                    refine wpAnyIn_done (by kernel_rfl) ?_ _
                    exact ⟨rfl, rfl⟩
                · (go_simp; refine hK _ _ ?_; clear hK K)
                  refine wpAnyIn_ready (rs := [0]) (by kernel_rfl) (by simp) (AllReadyIn.cons rfl (fun K hK => ?_) AllReadyIn.nil)
                  · (go_simp; refine hK _ _ ?_; clear hK K)
                    refine wpAnyIn_ready (rs := [9]) (by kernel_rfl) (by simp) (AllReadyIn.cons rfl (fun K hK => ?_) AllReadyIn.nil)
                    (go_simp; refine hK _ _ ?_; clear hK K)
                    refine wpAnyIn_done (by kernel_rfl) ?_ _
                    exact ⟨rfl, rfl⟩
              · (go_simp; refine hK _ _ ?_; clear hK K)
                refine wpAnyIn_ready (rs := [0, 4]) (by kernel_rfl) (by simp) (AllReadyIn.cons rfl (fun K hK => ?_) (AllReadyIn.cons rfl (fun K hK => ?_) AllReadyIn.nil))
                · (go_simp; refine hK _ _ ?_; clear hK K)
                  refine wpAnyIn_ready (rs := [4]) (by kernel_rfl) (by simp) (AllReadyIn.cons rfl (fun K hK => ?_) AllReadyIn.nil)
                  · (go_simp; refine hK _ _ ?_; clear hK K)
                    refine wpAnyIn_ready (rs := [9]) (by kernel_rfl) (by simp) (AllReadyIn.cons rfl (fun K hK => ?_) AllReadyIn.nil)
                    (go_simp; refine hK _ _ ?_; clear hK K)
                    refine wpAnyIn_done (by kernel_rfl) ?_ _
                    exact ⟨rfl, rfl⟩
                · (go_simp; refine hK _ _ ?_; clear hK K)
                  refine wpAnyIn_ready (rs := [0]) (by kernel_rfl) (by simp) (AllReadyIn.cons rfl (fun K hK => ?_) AllReadyIn.nil)
                  · (go_simp; refine hK _ _ ?_; clear hK K)
                    refine wpAnyIn_ready (rs := [9]) (by kernel_rfl) (by simp) (AllReadyIn.cons rfl (fun K hK => ?_) AllReadyIn.nil)
                    (go_simp; refine hK _ _ ?_; clear hK K)
                    refine wpAnyIn_done (by kernel_rfl) ?_ _
                    exact ⟨rfl, rfl⟩
            rintro _ _ _ ⟨rfl, rfl⟩
            gi_wp2
            have hg := grown_of HB2.out hg3
            refine ⟨D, Tch.grown hg (fun r e => by cases e; left; simp), (Below.refl _ _).grown hg (by simp; omega) (fun k e => by cases e; simp), HA.out.res.kept hg (by simp), HA.out.mbox.kept hg (by simp), by simpa using HM3.out, fun r e => ?_⟩
            rw [HST2.out]
            have e2 := HE.out
            rw [e] at e2
            have e3 : r = rest := by simpa using e2
            rw [e3]
          · have hst2 : soundFrom [] (flatL [(h, f)]) = false := by rw [HST.out, varB_some HVT.out ho, decide_eq_false hoe]; rfl
            have HST2 := Lib.hid hst2
            have HO := Lib.hid ho
            have hoe' : (o == x.1.op) = false := by simpa using hoe
            clear hst2 ho
            gi_wp2_with (first
              | (refine ⟨trivial, ?_⟩; gi_at_call 109; refine (CallsIn.inRound l (callsIn_wide.2 HC.out)).mono ?_; rintro e w2 ⟨rfl, hb2⟩; have HB2 := Lib.hid hb2; have c0' := (hb2.cell (p := ⟨p.1, p.2, none⟩) hpl).trans c0; have c2' := (hb2.cell (p := ⟨p.1, p.2 + 2, none⟩) hpl).trans c2; have hmb := (boxed_below HA.out.mbox hb2).cell; have hbx := (boxed_below HA.out.res hb2).cell; have hbf := (boxed_below HA.out.res hb2).frozen; clear hb2)
              | (refine ⟨trivial, ?_⟩; gi_at_call 58; refine (CallsIn.inRound l (callsIn_wide.2 (HV.out _))).mono ?_; rintro e w3 ⟨rfl, rfl⟩))
            have hlk := fun m => ((HA.out.mis.below HB2.out).drewN m).look HWF.out
            rw [HO.out] at hlk
            simp only [Option.getD_some, Option.isSome_some] at hlk
            refine region_quiet_round rfl (by kernel_rfl) (by kernel_rfl) (noDefer_spec (by kernel_rfl)) ?_
            repeat (quiet_step_in (fail))
            refine wpQuietIn_nil ?_
            intro _ hw'
            obtain ⟨nq, hw''⟩ := hw'
            subst hw''
            clear hlk
            gi_wp2
            have hg : W.grownBy ((w2.drewN nq).setCell ⟨w.heap.size + 1, 0, none⟩ (.bool false)) (some (w.heap.size + 1)) := grown_of HB2.out (grownBy_setCell' _ _ _)
            refine ⟨D, Tch.grown hg (fun r e => by cases e; left; simp), (Below.refl _ _).grown hg (by simp; omega) (fun k e => by cases e; simp), rfl, ?_, HST2.out⟩
            exact Boxed.set (W := w2.drewN nq) _ (HA.out.res.kept (grown_of (m := nq) (row := none) HB2.out ⟨rfl, rfl, rfl, Nat.le_refl _, fun _ _ _ => rfl⟩) (by simp))
  case done =>
    rintro K D W hK hDK hB hA hKd
    have hc := hA.res.cell
    have hf := hA.res.frozen
    have hgo := hA.go [] (by simp)
    have HG : Hid (soundFrom [] (flatL [(h, f)]) = true) := Lib.hid (by rw [hgo]; rfl)
    have HR := Lib.hid hA.res
    have hW : w.heap.size + 5 ≤ W.heap.size := by have := hB.size; have := (Array.getElem?_eq_some_iff.1 hKd).1; simp at hK; omega
    clear hgo hA hst
    have hg := grownBy_setCell' W (w.heap.size + 1) (.bool true)
    have hKd' : (W.setCell ⟨w.heap.size + 1, 0, none⟩ (.bool true)).heap[K]? = some (.deferred (some [])) := (hg.block K (Array.getElem?_eq_some_iff.1 hKd).1 (by intro e; cases e; simp at hK; omega)).trans hKd
    have HKD := Lib.hid hKd'
    clear hKd'
    gi_wp2
    refine ⟨by simp, .inl ⟨_, _, rfl, run_takeDeferred HKD.out, ?_⟩⟩
    have hg2 := grownBy_putObj' (W.setCell ⟨w.heap.size + 1, 0, none⟩ (.bool true)) K (.deferred none)
    have hc2 := ((HR.out.set (.bool true)).kept hg2 (by intro e; cases e; simp at hK; omega)).cell
    have hB2 : Below w.heap.size w W := ((Below.refl _ _).alloc (Nat.le_refl _) _).trans (hB.mono (by simp))
    refine ⟨.bool true, by simp [results, Try.results86, go_sem, hc2], by rw [HG.out], below_put (hB2.setCell (p := ⟨w.heap.size + 1, 0, none⟩) (by simp) _) HKD.out (by simp at hK; omega)⟩
  case stop =>
    rintro K c pre rest D W hK hDK he hB ⟨rfl, hbox, hs⟩ hKd
    have hc := hbox.cell
    have HG := Lib.hid hs
    have HR := Lib.hid hbox
    clear hs hst
    gi_wp2
    refine ⟨by simp, .inl ⟨_, _, rfl, run_takeDeferred hKd, ?_⟩⟩
    have hg2 := grownBy_putObj' W K (.deferred none)
    have hc2 := (HR.out.kept hg2 (by intro e; cases e; simp at hK; omega)).cell
    have hB2 : Below w.heap.size w W := ((Below.refl _ _).alloc (Nat.le_refl _) _).trans (hB.mono (by simp))
    refine ⟨.bool false, by simp [results, Try.results86, go_sem, hc2], by rw [HG.out], below_put hB2 hKd (by simp at hK; omega)⟩

end Go.Proofs.Ytcjhgefkbnbmnaa
