/- Clone; Put of what is not right: a copy of its own. -/
import Derived.Test.YtcjhgefkbnbmnaaPTmG
import Derived.Test.YtcjhgefkbnbmnaaPD
namespace Go.Proofs.Ytcjhgefkbnbmnaa
open Go.RowKit LM
set_option linter.unusedVariables false

set_option maxRecDepth 100000 in
theorem Put_own0 (h : Hd) (k : Fo) (q : Option Addr) (cap : Nat) (n : Int) (H : Hd) (K : Fo) (Q : Option Addr) (C : Nat) (w : World) (hh : h.ok) (hs : SlF w q cap k) (hk : k.ok) (hsz : 1 + k.size ≤ 1099511627776)
    (hh' : H.ok) (hs' : SlF w Q C K) (hk' : K.ok) (hsz' : 1 + K.size ≤ 1099511627776) (hno : (riB h k && riB H K) = false) :
    Calls Try.prog 28 #[.agg #[.int .u8 h.op, .string h.name, .int .i64 h.n, .slice q k.len cap], .int .i64 n, .agg #[.int .u8 H.op, .string H.name, .int .i64 H.n, .slice Q K.len C]] w (CopPost w h k) := by
  have HC := Lib.hid fun w' (hb : Below w.heap.size w w') => copied_any h k q cap w' hh (hs.below hb) hk hsz
  have HR1 : Hid (∀ w', Below w.heap.size w w' → Calls Try.prog 54 #[.agg #[.int .u8 h.op, .string h.name, .int .i64 h.n, .slice q k.len cap]] w' fun e w'' => e = .returned (.bool (riB h k)) ∧ Below w'.heap.size w' w'') :=
    Lib.hid fun w' hb => right_any h k q cap w' hh (hs.below hb) hk hsz
  have HR2 : Hid (∀ w', Below w.heap.size w w' → Calls Try.prog 54 #[.agg #[.int .u8 H.op, .string H.name, .int .i64 H.n, .slice Q K.len C]] w' fun e w'' => e = .returned (.bool (riB H K)) ∧ Below w'.heap.size w' w'') :=
    Lib.hid fun w' hb => right_any H K Q C w' hh' (hs'.below hb) hk' hsz'
  have HS := Lib.hid (PutB.start w h k q cap n H K Q C)
  clear hs hk hs' hk' hh hh' hsz hsz'
  go_enter Try.func28, Try.ntmps28
  go_wp2_with fail
  refine (HC.out _ HS.out.below).mono ?_
  rintro e w1 ⟨q1, c1, F1, rfl, hl1, hm1, hown1, hnd1, hF1, hb1⟩
  have hS1 := HS.out.go hb1
  obtain ⟨a0, a1, a2, a3, _⟩ := row4 hS1.b0
  obtain ⟨d0, d1, d2, d3, _⟩ := row4 hS1.b2
  have hz1 : w.heap.size + 3 < w1.heap.size := hS1.room
  have hz0 : w.heap.size < w1.heap.size := by omega
  have hz2 : w.heap.size + 1 + 1 < w1.heap.size := by omega
  have HS1 := Lib.hid hS1
  have HF1 := Lib.hid hF1
  have HB1 := Lib.hid hb1
  clear hS1 hF1 hb1
  have hB2 : ∀ o, Below w1.heap.size w1 (w1.alloc o) := fun o => below_box _ _
  have HB2 := Lib.hid hB2
  have hin : ∀ w3, Below (w1.alloc (.cells #[.int .u8 h.op, .string h.name, .int .i64 h.n, .slice q1 k.len c1] 25)).heap.size (w1.alloc (.cells #[.int .u8 h.op, .string h.name, .int .i64 h.n, .slice q1 k.len c1] 25)) w3 →
      w3.heap[w1.heap.size]? = some (.cells #[.int .u8 h.op, .string h.name, .int .i64 h.n, .slice q1 k.len c1] 25 (0, 0)) ∧ PutB w h k q cap n H K Q C w3 ∧ Below w1.heap.size w1 w3 := fun w3 hb3 =>
    ⟨(hb3.block _ (by simp)).trans (World.alloc_heap_new w1 _), (HS1.out.go (HB2.out _)).go hb3, (HB2.out _).trans (hb3.mono (by simp))⟩
  have HIN := Lib.hid hin
  have hfin : ∀ w3, Below w1.heap.size w1 w3 → ∀ v0 v1 v2 v3, CopPost w h k (.returned (.agg #[.int .u8 h.op, .string h.name, .int .i64 h.n, .slice q1 k.len c1])) (World.set4 w3 (w.heap.size + 1 + 1 + 1) v0 v1 v2 v3) := fun w3 hb3 v0 v1 v2 v3 => by
    have hg := set4_grown w3 (w.heap.size + 1 + 1 + 1) v0 v1 v2 v3
    have hb03 : Below w.heap.size w w3 := (below_then HS.out.below HB1.out).trans (hb3.mono (by have := HB1.out.size; simp at this; omega))
    have hbig : ∀ c ∈ F1, w.heap.size + 4 ≤ c ∧ c < w1.heap.size := fun c hc => by have := HF1.out c hc; simp at this; omega
    refine ⟨q1, c1, F1, rfl, hl1, hm1, hown1.keep (fun c hc => (hg.block c (Nat.lt_of_lt_of_le (hbig c hc).2 hb3.size) (fun e => by have := Option.some.inj e; have := (hbig c hc).1; omega)).trans (hb3.block c (hbig c hc).2)), hnd1, fun c hc => ⟨by have := (hbig c hc).1; omega, Nat.lt_of_lt_of_le (hbig c hc).2 (Nat.le_trans hb3.size hg.size)⟩, hb03.grown hg hb03.size (fun r e => by have := Option.some.inj e; omega)⟩
  have HFIN := Lib.hid hfin
  clear hB2 hin hfin hown1 hnd1
  by_cases hr : riB h k = true
  · have hr2 : riB H K = false := by rw [hr] at hno; simpa using hno
    rw [hr] at HR1
    rw [hr2] at HR2
    clear hr hr2 hno
    go_wp2_with fail
    refine (HR1.out _ (HS1.out.go (HB2.out _)).below).mono ?_
    rintro e w3 ⟨rfl, hb3⟩
    obtain ⟨ho, hS3, hb13⟩ := HIN.out w3 hb3
    obtain ⟨a0, a1, a2, a3, _⟩ := row4 hS3.b0
    obtain ⟨d0, d1, d2, d3, _⟩ := row4 hS3.b2
    have HS3 := Lib.hid hS3
    have HO := Lib.hid ho
    have HB13 := Lib.hid hb13
    clear ho hS3 hb3 hb13
    go_wp2_with fail
    refine (HR2.out _ HS3.out.below).mono ?_
    rintro e w4 ⟨rfl, hb4⟩
    have hS4 := HS3.out.go hb4
    have ho4 := (hb4.block _ (Array.getElem?_eq_some_iff.1 HO.out).1).trans HO.out
    obtain ⟨x0, x1, x2, x3, _⟩ := row4 ho4
    obtain ⟨y0, y1, y2, y3, z0, z1, z2, z3⟩ := row4 hS4.b3
    have HE := Lib.hid (HFIN.out w4 (HB13.out.trans (hb4.mono HB13.out.size)) (.int .u8 h.op) (.string h.name) (.int .i64 h.n) (.slice q1 k.len c1))
    clear hS4 ho4 hb4
    go_wp2
    exact bodyPost_ret (v := .agg #[.int .u8 h.op, .string h.name, .int .i64 h.n, .slice q1 k.len c1]) (by simp [results, Try.results28, go_sem, y0, y1, y2, y3]) rfl HE.out
  · have hr2 : riB h k = false := by simpa using hr
    rw [hr2] at HR1
    clear hr hr2 hno
    go_wp2_with fail
    refine (HR1.out _ (HS1.out.go (HB2.out _)).below).mono ?_
    rintro e w3 ⟨rfl, hb3⟩
    obtain ⟨ho, hS3, hb13⟩ := HIN.out w3 hb3
    obtain ⟨x0, x1, x2, x3, _⟩ := row4 ho
    obtain ⟨y0, y1, y2, y3, z0, z1, z2, z3⟩ := row4 hS3.b3
    have HE := Lib.hid (HFIN.out w3 hb13 (.int .u8 h.op) (.string h.name) (.int .i64 h.n) (.slice q1 k.len c1))
    clear ho hS3 hb3 hb13
    go_wp2
    exact bodyPost_ret (v := .agg #[.int .u8 h.op, .string h.name, .int .i64 h.n, .slice q1 k.len c1]) (by simp [results, Try.results28, go_sem, y0, y1, y2, y3]) rfl HE.out

/-- Block b is a row of terms, none of its cells frozen. -/
def RowT (w : World) (b : Nat) : Prop := ∃ cs, w.heap[b]? = some (.cells cs 43 (0, 0))
theorem RowT.same {w w' : World} {b : Nat} (h : RowT w b) (e : w'.heap[b]? = w.heap[b]?) : RowT w' b := by obtain ⟨cs, h⟩ := h; exact ⟨cs, e.trans h⟩
theorem RowT.lt {w : World} {b : Nat} (h : RowT w b) : b < w.heap.size := by obtain ⟨cs, h⟩ := h; exact (Array.getElem?_eq_some_iff.1 h).1
theorem RowT.frozen {w : World} {b : Nat} (h : RowT w b) (o : Nat) : w.frozen? ⟨b, o, none⟩ = false := by obtain ⟨cs, h⟩ := h; simp [World.frozen?, h]
theorem RowT.set {w : World} {b : Nat} (h : RowT w b) (a : Addr) (v : Value) : RowT (w.setCell a v) b := by
  obtain ⟨cs, h⟩ := h
  obtain ⟨hlt, hk⟩ := Array.getElem?_eq_some_iff.1 h
  by_cases e : a.block = b
  · subst e
    show ∃ cs', (w.heap.modify a.block _)[a.block]? = some (.cells cs' _ (0, 0))
    rw [Array.getElem?_eq_getElem (by rw [Array.size_modify]; exact hlt), Array.getElem_modify_self, hk]
    exact ⟨_, rfl⟩
  · exact ⟨cs, (Below.heap_setCell _ _ _ b (fun h => e h.symm)).trans h⟩

/-- The cells of terms side by side. -/
def TCellsOf (w : World) : TF → List Value → Prop
  | .nil, cs => cs = []
  | .cons h k r, cs => ∃ qa ca q cap cs', cs = (tmV h qa ca q k.len cap).toList ++ cs' ∧ SlF w qa ca h.ak ∧ TSl w q cap k ∧ TCellsOf w r cs'
theorem TFAt.cellsOf {w : World} : ∀ {f : TF} {b o : Nat}, TFAt w f b o → ∃ cs, TCellsOf w f cs ∧ ∀ j u, cs[j]? = some u → w.cell? ⟨b, o + j, none⟩ = some u
  | .nil, _, _, _ => ⟨[], rfl, fun j u h => by simp at h⟩
  | .cons h k r, b, o, ⟨qa, ca, q, cap, hh, ha, hk, hr⟩ => by
    obtain ⟨cs, h1, h2⟩ := TFAt.cellsOf hr
    refine ⟨_, ⟨qa, ca, q, cap, cs, rfl, ha, ⟨hh.lc, hh.cm, hk⟩, h1⟩, fun j u hj => ?_⟩
    match j, hj with
    | 0, hj => simp at hj; subst hj; exact hh.c0
    | 1, hj => simp at hj; subst hj; exact hh.c1
    | 2, hj => simp at hj; subst hj; exact hh.c2
    | 3, hj => simp at hj; subst hj; exact hh.c3
    | 4, hj => simp at hj; subst hj; exact hh.c4
    | 5, hj => simp at hj; subst hj; exact hh.c5
    | 6, hj => simp at hj; subst hj; exact hh.c6
    | 7, hj => simp at hj; subst hj; exact hh.c7
    | 8, hj => simp at hj; subst hj; exact hh.c8
    | 9, hj => simp at hj; subst hj; exact hh.c9
    | j + 10, hj =>
      rw [show o + (j + 10) = o + 10 + j by omega]
      exact h2 j u (by simpa using hj)
theorem TCellsOf.length {w : World} : ∀ {f : TF} {cs : List Value}, TCellsOf w f cs → cs.length = f.len * 10
  | .nil, _, h => by rw [h]; rfl
  | .cons h k r, _, ⟨qa, ca, q, cap, cs', rfl, _, _, hr⟩ => by simp [TF.len, TCellsOf.length hr]; omega
theorem TCellsOf.one {w : World} : ∀ {f : TF} {cs : List Value}, TCellsOf w f cs → ∀ u ∈ cs, u.oneCell' = true
  | .nil, _, h, u, hu => by rw [h] at hu; cases hu
  | .cons h k r, _, ⟨qa, ca, q, cap, cs', rfl, _, _, hr⟩, u, hu => by
    rcases List.mem_append.1 hu with hu | hu
    · simp at hu
      rcases hu with rfl | rfl | rfl | rfl | rfl | rfl | rfl | rfl | rfl | rfl <;> rfl
    · exact TCellsOf.one hr u hu

/-- What Clone answers. -/
def ClonePost (w0 w : World) (f : TF) (e : Ending) (w' : World) : Prop := ∃ q' cap', e = .returned (.slice q' f.len cap') ∧ f.len ≤ cap' ∧ cap' ≤ maxLen ∧ Below w.heap.size w w' ∧
  (f.len = 0 ∨ ∃ g cs, q' = some ⟨g, 0, none⟩ ∧ w.heap.size ≤ g ∧ RowT w' g ∧ TCellsOf w0 f cs ∧ ∀ j u, cs[j]? = some u → w'.cell? ⟨g, j, none⟩ = some u)

set_option maxRecDepth 100000 in
set_option maxHeartbeats 2000000 in
theorem Clone_any (w0 : World) (f : TF) (q : Option Addr) (cap : Nat) (w : World) (hb0 : Below w0.heap.size w0 w) (hs : TSl w0 q cap f) (hsz : f.len ≤ 1073741824) :
    Calls Try.prog 85 #[.slice q f.len cap] w (ClonePost w0 w f) := by
  obtain ⟨i0, hi, hz0, hz1, hz2⟩ := info_parts info_term
  have hcm := hs.cm
  have hlc := hs.lc
  unfold maxLen at hcm
  by_cases hl : 0 < f.len
  · obtain ⟨b, o, rfl, hfo⟩ := hs.at_ hl
    obtain ⟨cs, hcs, hcc⟩ := hfo.cellsOf
    have hb1 := below_box w (.cells #[] 43)
    have hcc1 : ∀ j u, cs[j]? = some u → (w.alloc (.cells #[] 43)).cell? ((⟨b, o, none⟩ : Addr).add j) = some u := fun j u hj => by
      have := hcc j u hj
      rw [Addr.add_lit]
      exact (hb1.cell (p := ⟨b, o + j, none⟩) (Nat.lt_of_lt_of_le (World.block_lt_of_cell? w0 _ this) hb0.size)).trans ((hb0.cell (p := ⟨b, o + j, none⟩) (World.block_lt_of_cell? w0 _ this)).trans this)
    have hown0 : (w.alloc (.cells #[] 43)).ownsRow w.heap.size 43 10 (.slice (some ⟨w.heap.size, 0, none⟩) 0 0) 0 [] := ⟨rfl, .inr ⟨_, 0, #[], rfl, Nat.le_refl _, World.alloc_heap_new w _, Nat.le_refl _, Nat.zero_le _, rfl, rfl⟩⟩
    have HO := Lib.hid hown0
    have HC1 := Lib.hid hcc1
    have HN := Lib.hid hcs.length
    have HO1 := Lib.hid hcs.one
    have HE : Hid (∀ v' w1, w1.ownsRow w.heap.size 43 10 v' f.len cs → (w.alloc (.cells #[] 43)).grownBy w1 (some w.heap.size) → ClonePost w0 w f (.returned v') w1) := Lib.hid fun v' w1 h1 h2 => by
      obtain ⟨g, c, cur, rfl, k1, k2, k3, k4, k5⟩ := own_some h1 hl
      refine ⟨_, c, rfl, k3, k4, hb1.grown h2 hb1.size (fun r e => by have := Option.some.inj e; omega), .inr ⟨g, cs, rfl, k1, ⟨_, k2⟩, hcs, fun j u hj => ?_⟩⟩
      have := k5 j u hj
      rwa [Nat.zero_add] at this
    clear hs hfo hcs hcc hcc1 hown0 hb1
    generalize f.len = L at *
    go_enter Try.func85, Try.ntmps85
    have he : ∀ w : World, (binOp .eql 41 (.slice (some ⟨b, o, none⟩) L cap) (.slice none 0 0)).run Try.prog w = .ok (.bool false) w := fun _ => rfl
    go_wp2_with (at_builtin; refine wpList_append_own _ rfl _ _ 41 rfl w.heap.size 43 i0 _ 10 136 Try.underlying41 hi hz0 hz1 hz2 rfl (by decide) _ _ _ rfl HO.out ⟨b, o, none⟩ L cap cs rfl HN.out HC1.out HO1.out (by unfold maxLen; omega) (by omega) (by simp) ?_)
    intro v' w1 h1 h2 _
    have HE1 := Lib.hid (HE.out v' w1 h1 h2)
    clear h1 h2
    go_wp2
    go_ret
    exact HE1.out
  · have h0 : f.len = 0 := by omega
    rw [h0]
    have HE : Hid (∀ q' c' w1, Below w.heap.size w w1 → c' ≤ maxLen → ClonePost w0 w f (.returned (.slice q' 0 c')) w1) := Lib.hid fun q' c' w1 hb hc => ⟨q', c', by rw [h0], by omega, hc, hb, .inl h0⟩
    clear hs h0 hl hlc
    cases q with
    | none =>
      have he : ∀ w : World, (binOp .eql 41 (.slice none 0 cap) (.slice none 0 0)).run Try.prog w = .ok (.bool true) w := fun _ => rfl
      go_enter Try.func85, Try.ntmps85
      go_wp2
      go_ret
      exact HE.out _ _ _ (Below.refl _ _) (Nat.zero_le _)
    | some ad =>
      have he : ∀ w : World, (binOp .eql 41 (.slice (some ad) 0 cap) (.slice none 0 0)).run Try.prog w = .ok (.bool false) w := fun _ => rfl
      have hown0 : (w.alloc (.cells #[] 43)).ownsRow w.heap.size 43 10 (.slice (some ⟨w.heap.size, 0, none⟩) 0 0) 0 [] := ⟨rfl, .inr ⟨_, 0, #[], rfl, Nat.le_refl _, World.alloc_heap_new w _, Nat.le_refl _, Nat.zero_le _, rfl, rfl⟩⟩
      have HO := Lib.hid hown0
      clear hown0
      go_enter Try.func85, Try.ntmps85
      go_wp2_with (at_builtin; refine wpList_append_own _ rfl _ _ 41 rfl w.heap.size 43 i0 _ 10 136 Try.underlying41 hi hz0 hz1 hz2 rfl (by decide) _ _ _ rfl HO.out ad 0 cap [] rfl rfl (by simp) (by simp) (by unfold maxLen; omega) (by omega) (by simp) ?_)
      intro v' w1 h1 h2 _
      obtain ⟨a', c', rfl⟩ := own_value h1
      have hc' : c' ≤ maxLen := by
        rcases h1.2 with ⟨e, _⟩ | ⟨g, c2, cur, e, _, _, _, hm, _⟩
        · cases e; exact Nat.zero_le _
        · cases e; exact hm
      have HE1 := Lib.hid (HE.out a' c' w1 ((below_box _ _).grown h2 (below_box _ _).size (fun r e => by have e' : some w.heap.size = some r := e; have := Option.some.inj e'; omega)) hc')
      clear h1 h2 hc'
      go_wp2
      go_ret
      exact HE1.out
end Go.Proofs.Ytcjhgefkbnbmnaa
