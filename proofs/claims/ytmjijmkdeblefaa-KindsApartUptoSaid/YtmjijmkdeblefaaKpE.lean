/- Put. -/
import Derived.Test.YtmjijmkdeblefaaKpD
namespace Go.Proofs.Ytmjijmkdeblefaa
open Go.RowKit Go.Shelf LM
set_option linter.unusedVariables false
attribute [local go_sem] Oper.semAt_some

/-- The boxes of Put's parameters and of its result. -/
structure PutB (w : World) (h : Hd) (k : Fo) (q : Option Addr) (cap : Nat) (n : Int) (H : Hd) (K : Fo) (Q : Option Addr) (C : Nat) (W : World) : Prop where
  b0 : W.heap[w.heap.size]? = some (.cells #[.int .u8 h.op, .string h.name, .int .i64 h.n, .slice q k.len cap] 25 (0, 0))
  b1 : Boxed W (w.heap.size + 1) 3 (.int .i64 n)
  b2 : W.heap[w.heap.size + 1 + 1]? = some (.cells #[.int .u8 H.op, .string H.name, .int .i64 H.n, .slice Q K.len C] 25 (0, 0))
  b3 : W.heap[w.heap.size + 1 + 1 + 1]? = some (.cells #[.int .u8 0, .string ⟨#[]⟩, .int .i64 0, .slice none 0 0] 25 (0, 0))
  below : Below w.heap.size w W
  room : w.heap.size + 4 ≤ W.heap.size
theorem PutB.start (w : World) (h : Hd) (k : Fo) (q : Option Addr) (cap : Nat) (n : Int) (H : Hd) (K : Fo) (Q : Option Addr) (C : Nat) :
    PutB w h k q cap n H K Q C ((((w.alloc (.cells #[.int .u8 h.op, .string h.name, .int .i64 h.n, .slice q k.len cap] 25)).alloc (.cells #[.int .i64 n] 3)).alloc (.cells #[.int .u8 H.op, .string H.name, .int .i64 H.n, .slice Q K.len C] 25)).alloc (.cells #[.int .u8 0, .string ⟨#[]⟩, .int .i64 0, .slice none 0 0] 25)) := by
  have e1 := World.alloc_heap_new w (.cells #[.int .u8 h.op, .string h.name, .int .i64 h.n, .slice q k.len cap] 25)
  have e2 := World.alloc_heap_new (w.alloc (.cells #[.int .u8 h.op, .string h.name, .int .i64 h.n, .slice q k.len cap] 25)) (.cells #[.int .i64 n] 3)
  have e3 := World.alloc_heap_new ((w.alloc (.cells #[.int .u8 h.op, .string h.name, .int .i64 h.n, .slice q k.len cap] 25)).alloc (.cells #[.int .i64 n] 3)) (.cells #[.int .u8 H.op, .string H.name, .int .i64 H.n, .slice Q K.len C] 25)
  have e4 := World.alloc_heap_new (((w.alloc (.cells #[.int .u8 h.op, .string h.name, .int .i64 h.n, .slice q k.len cap] 25)).alloc (.cells #[.int .i64 n] 3)).alloc (.cells #[.int .u8 H.op, .string H.name, .int .i64 H.n, .slice Q K.len C] 25)) (.cells #[.int .u8 0, .string ⟨#[]⟩, .int .i64 0, .slice none 0 0] 25)
  simp only [World.size_alloc] at e2 e3 e4
  refine ⟨?_, ?_, ?_, e4, (((below_box _ _).alloc (by simp) _).alloc (by simp; omega) _).alloc (by simp; omega) _, by simp⟩
  · exact ((below_box _ _).block _ (by simp; omega)).trans (((below_box _ _).block _ (by simp; omega)).trans (((below_box _ _).block _ (by simp)).trans e1))
  · exact ((below_box _ _).block _ (by simp)).trans (((below_box _ _).block _ (by simp)).trans e2)
  · exact ((below_box _ _).block _ (by simp)).trans e3
theorem PutB.go {w : World} {h : Hd} {k : Fo} {q : Option Addr} {cap : Nat} {n : Int} {H : Hd} {K : Fo} {Q : Option Addr} {C : Nat} {W W' : World} (hp : PutB w h k q cap n H K Q C W) (hb : Below W.heap.size W W') : PutB w h k q cap n H K Q C W' := by
  have hr := hp.room
  exact ⟨(hb.block _ (by omega)).trans hp.b0, (hb.block _ (by omega)).trans hp.b1, (hb.block _ (by omega)).trans hp.b2, (hb.block _ (by omega)).trans hp.b3, hp.below.trans (hb.mono (by omega)), by have := hb.size; omega⟩

set_option maxRecDepth 100000 in
set_option maxHeartbeats 2000000 in
theorem Put_no (h : Hd) (k : Fo) (q : Option Addr) (cap : Nat) (n : Int) (H : Hd) (K : Fo) (Q : Option Addr) (C : Nat) (w : World) (hh : h.ok) (hs : SlF w q cap k) (hk : k.ok) (hsz : 1 + k.size ≤ 1099511627776)
    (hh' : H.ok) (hs' : SlF w Q C K) (hk' : K.ok) (hsz' : 1 + K.size ≤ 1099511627776) (hno : (riB h k && riB H K) = false) :
    Calls Try.prog 28 #[.agg #[.int .u8 h.op, .string h.name, .int .i64 h.n, .slice q k.len cap], .int .i64 n, .agg #[.int .u8 H.op, .string H.name, .int .i64 H.n, .slice Q K.len C]] w (TrPost w h k) := by
  have HC := Lib.hid fun w' (hb : Below w.heap.size w w') => copied_any h k q cap w' hh (hs.below hb) hk hsz
  have HR1 : Hid (∀ w', Below w.heap.size w w' → Calls Try.prog 54 #[.agg #[.int .u8 h.op, .string h.name, .int .i64 h.n, .slice q k.len cap]] w' fun e w'' => e = .returned (.bool (riB h k)) ∧ Below w'.heap.size w' w'') :=
    Lib.hid fun w' hb => right_any h k q cap w' hh (hs.below hb) hk hsz
  have HR2 : Hid (∀ w', Below w.heap.size w w' → Calls Try.prog 54 #[.agg #[.int .u8 H.op, .string H.name, .int .i64 H.n, .slice Q K.len C]] w' fun e w'' => e = .returned (.bool (riB H K)) ∧ Below w'.heap.size w' w'') :=
    Lib.hid fun w' hb => right_any H K Q C w' hh' (hs'.below hb) hk' hsz'
  have HS := Lib.hid (PutB.start w h k q cap n H K Q C)
  clear hs hk hs' hk' hh hh' hsz hsz'
  go_enter Try.func28, Try.ntmps28
  go_wp2_with fail
  refine (HC.out _ HS.out.below).mono ?_
  rintro e w1 ⟨q1, c1, F1, rfl, hl1, hm1, hown1, hnd1, hF1, hb1⟩
  have hS1 := HS.out.go hb1
  obtain ⟨a0, a1, a2, a3, _⟩ := row4 hS1.b0
  obtain ⟨d0, d1, d2, d3, _⟩ := row4 hS1.b2
  have hz1 : w.heap.size + 3 < w1.heap.size := hS1.room
  have hz0 : w.heap.size < w1.heap.size := by omega
  have hz2 : w.heap.size + 1 + 1 < w1.heap.size := by omega
  have HS1 := Lib.hid hS1
  have HF1 := Lib.hid hF1
  have HB1 := Lib.hid hb1
  clear hS1 hF1 hb1
  have hB2 : ∀ o, Below w1.heap.size w1 (w1.alloc o) := fun o => below_box _ _
  have HB2 := Lib.hid hB2
  have hin : ∀ w3, Below (w1.alloc (.cells #[.int .u8 h.op, .string h.name, .int .i64 h.n, .slice q1 k.len c1] 25)).heap.size (w1.alloc (.cells #[.int .u8 h.op, .string h.name, .int .i64 h.n, .slice q1 k.len c1] 25)) w3 →
      w3.heap[w1.heap.size]? = some (.cells #[.int .u8 h.op, .string h.name, .int .i64 h.n, .slice q1 k.len c1] 25 (0, 0)) ∧ PutB w h k q cap n H K Q C w3 ∧ Below w1.heap.size w1 w3 := fun w3 hb3 =>
    ⟨(hb3.block _ (by simp)).trans (World.alloc_heap_new w1 _), (HS1.out.go (HB2.out _)).go hb3, (HB2.out _).trans (hb3.mono (by simp))⟩
  have HIN := Lib.hid hin
  have hfin : ∀ w3, Below w1.heap.size w1 w3 → ∀ v0 v1 v2 v3, TrPost w h k (.returned (.agg #[.int .u8 h.op, .string h.name, .int .i64 h.n, .slice q1 k.len c1])) (World.set4 w3 (w.heap.size + 1 + 1 + 1) v0 v1 v2 v3) := fun w3 hb3 v0 v1 v2 v3 => by
    have he := store_end (b := w.heap.size + 1 + 1 + 1) HS.out.below (HB1.out.trans (hb3.mono HB1.out.size)) (by omega) (by simp) (hown1.keep fun c hc => hb3.block c (HF1.out c hc).2) (fun c hc => ⟨(HF1.out c hc).1, Nat.lt_of_lt_of_le (HF1.out c hc).2 hb3.size⟩) hl1 hm1 v0 v1 v2 v3
    exact ⟨_, _, rfl, he.1, he.2⟩
  have HFIN := Lib.hid hfin
  clear hB2 hin hfin hown1
  by_cases hr : riB h k = true
  · have hr2 : riB H K = false := by rw [hr] at hno; simpa using hno
    rw [hr] at HR1
    rw [hr2] at HR2
    clear hr hr2 hno
    go_wp2_with fail
    refine (HR1.out _ (HS1.out.go (HB2.out _)).below).mono ?_
    rintro e w3 ⟨rfl, hb3⟩
    obtain ⟨ho, hS3, hb13⟩ := HIN.out w3 hb3
    obtain ⟨a0, a1, a2, a3, _⟩ := row4 hS3.b0
    obtain ⟨d0, d1, d2, d3, _⟩ := row4 hS3.b2
    have HS3 := Lib.hid hS3
    have HO := Lib.hid ho
    have HB13 := Lib.hid hb13
    clear ho hS3 hb3 hb13
    go_wp2_with fail
    refine (HR2.out _ HS3.out.below).mono ?_
    rintro e w4 ⟨rfl, hb4⟩
    have hS4 := HS3.out.go hb4
    have ho4 := (hb4.block _ (Array.getElem?_eq_some_iff.1 HO.out).1).trans HO.out
    obtain ⟨x0, x1, x2, x3, _⟩ := row4 ho4
    obtain ⟨y0, y1, y2, y3, z0, z1, z2, z3⟩ := row4 hS4.b3
    have HE := Lib.hid (HFIN.out w4 (HB13.out.trans (hb4.mono HB13.out.size)) (.int .u8 h.op) (.string h.name) (.int .i64 h.n) (.slice q1 k.len c1))
    clear hS4 ho4 hb4
    go_wp2
    exact bodyPost_ret (v := .agg #[.int .u8 h.op, .string h.name, .int .i64 h.n, .slice q1 k.len c1]) (by simp [results, Try.results28, go_sem, y0, y1, y2, y3]) rfl HE.out
  · have hr2 : riB h k = false := by simpa using hr
    rw [hr2] at HR1
    clear hr hr2 hno
    go_wp2_with fail
    refine (HR1.out _ (HS1.out.go (HB2.out _)).below).mono ?_
    rintro e w3 ⟨rfl, hb3⟩
    obtain ⟨ho, hS3, hb13⟩ := HIN.out w3 hb3
    obtain ⟨x0, x1, x2, x3, _⟩ := row4 ho
    obtain ⟨y0, y1, y2, y3, z0, z1, z2, z3⟩ := row4 hS3.b3
    have HE := Lib.hid (HFIN.out w3 hb13 (.int .u8 h.op) (.string h.name) (.int .i64 h.n) (.slice q1 k.len c1))
    clear ho hS3 hb3 hb13
    go_wp2
    exact bodyPost_ret (v := .agg #[.int .u8 h.op, .string h.name, .int .i64 h.n, .slice q1 k.len c1]) (by simp [results, Try.results28, go_sem, y0, y1, y2, y3]) rfl HE.out
end Go.Proofs.Ytmjijmkdeblefaa
