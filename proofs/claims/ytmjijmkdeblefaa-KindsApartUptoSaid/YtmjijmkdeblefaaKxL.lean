/- KindsForms: what stands behind Canon, Number and Vars. -/
import Derived.Test.YtmjijmkdeblefaaKy
import Derived.Test.YtmjijmkdeblefaaLawB
import Derived.Deep.RegionWith
import Derived.Deep.RegionHeld3
namespace Go.Proofs.Ytmjijmkdeblefaa
open Go.RowKit LM
set_option linter.unusedVariables false

def zT : Hd × Fo := (⟨0, ⟨#[]⟩, 0⟩, .nil)
/-- Behind Canon, Number and Vars. -/
structure FmB (w : World) (h : Hd) (L : Nat) (q : Option Addr) (cap : Nat) (Tc Tn : Hd × Fo) (l : List Int) (q3 : Option Addr) (c3 : Nat) (q4 : Option Addr) (c4 : Nat) (a : Option Addr) (cv : Nat) (B3 B4 : Nat) (W : World) : Prop where
  t : W.heap[w.heap.size]? = some (.cells #[.int .u8 h.op, .string h.name, .int .i64 h.n, .slice q L cap] 25 (0, 0))
  c : W.heap[B3]? = some (.cells #[.int .u8 Tc.1.op, .string Tc.1.name, .int .i64 Tc.1.n, .slice q3 Tc.2.len c3] 25 (0, 0))
  n : W.heap[B4]? = some (.cells #[.int .u8 Tn.1.op, .string Tn.1.name, .int .i64 Tn.1.n, .slice q4 Tn.2.len c4] 25 (0, 0))
  sc : SlF W q3 c3 Tc.2
  sn : SlF W q4 c4 Tn.2
  iv : IsAt W a cv l
  below : Below w.heap.size w W


set_option maxRecDepth 100000 in
theorem Canon_own (h : Hd) (k : Fo) (q : Option Addr) (cap : Nat) (w : World) (hh : h.ok) (hs : SlF w q cap k) (hok : k.ok) (hsz : 1 + k.size ≤ 1099511627776) (hr : riB h k = true) :
    Calls Try.prog 11 #[.agg #[.int .u8 h.op, .string h.name, .int .i64 h.n, .slice q k.len cap]] w (CopPost w (canT h k).1 (canT h k).2) := by
  have HR : Hid (∀ w', Below w.heap.size w w' → Calls Try.prog 54 #[.agg #[.int .u8 h.op, .string h.name, .int .i64 h.n, .slice q k.len cap]] w' fun e w'' => e = .returned (.bool true) ∧ Below w'.heap.size w' w'') :=
    Lib.hid fun w' hb => by rw [← hr]; exact right_any h k q cap w' hh (hs.below hb) hok hsz
  have hr' : rightB h k 1 = true ∨ rightB h k 2 = true := by unfold riB at hr; simpa using hr
  obtain ⟨hro, s, hsh⟩ := can_of hr'
  have HC := Lib.hid fun w' (hb : Below w.heap.size w w') => canon_any h k q cap w' s hh (hs.below hb) hok hsz hro hsh
  clear hs hr hr' hro hsh hh hok hsz
  generalize canT h k = T at *
  go_enter Try.func11, Try.ntmps11
  go_wp2_with fail
  refine (HR.out _ ((below_box _ _).alloc (by simp) _)).mono ?_
  rintro e w1 ⟨rfl, hb1⟩
  obtain ⟨hbw, hbox, hres⟩ := two_boxes hb1
  obtain ⟨x0, x1, x2, x3, _⟩ := row4 hbox
  have HBW := Lib.hid hbw
  have HRES := Lib.hid hres
  clear hb1 hbox hres hbw
  go_wp2_with fail
  refine (HC.out _ HBW.out).mono ?_
  rintro e w2 ⟨q', cap', F, rfl, h1, h2, hown, hnd, hF, hb⟩
  have hl1 := (Array.getElem?_eq_some_iff.1 HRES.out).1
  have hres2 := (hb.block _ hl1).trans HRES.out
  obtain ⟨y0, y1, y2, y3, z0, z1, z2, z3⟩ := row4 hres2
  have hg := set4_grown w2 (w.heap.size + 1) (.int .u8 T.1.op) (.string T.1.name) (.int .i64 T.1.n) (.slice q' T.2.len cap')
  have HE : Hid (CopPost w T.1 T.2 (.returned (.agg #[.int .u8 T.1.op, .string T.1.name, .int .i64 T.1.n, .slice q' T.2.len cap'])) (World.set4 w2 (w.heap.size + 1) (.int .u8 T.1.op) (.string T.1.name) (.int .i64 T.1.n) (.slice q' T.2.len cap'))) := Lib.hid (by
    have b2 := below_then HBW.out hb
    refine ⟨q', cap', F, rfl, h1, h2, hown.keep (fun c hc => hg.block c (hF c hc).2 (fun e => by have := Option.some.inj e; have := (hF c hc).1; omega)), hnd, fun c hc => ⟨?_, Nat.lt_of_lt_of_le (hF c hc).2 hg.size⟩, b2.grown hg b2.size (fun r e => by have := Option.some.inj e; omega)⟩
    have := (hF c hc).1; have := HBW.out.size; omega)
  clear hown hF hb hnd hres2 hg
  go_wp2
  exact bodyPost_ret (v := .agg #[.int .u8 T.1.op, .string T.1.name, .int .i64 T.1.n, .slice q' T.2.len cap']) (by simp [results, Try.results11, go_sem, y0, y1, y2, y3]) rfl HE.out

theorem own_agree {w W : World} {B : Nat} {e : TypeId} {size : Nat} {v : Value} {n : Nat} {xs : List Value} (h : w.ownsRow B e size v n xs) (he : ∀ b, B ≤ b → b < w.heap.size → W.heap[b]? = w.heap[b]?) : W.ownsRow B e size v n xs := by
  refine ⟨h.1, h.2.imp id ?_⟩
  rintro ⟨g, cap, cur, h1, h2, h3, h4⟩
  exact ⟨g, cap, cur, h1, h2, (he g h2 (Array.getElem?_eq_some_iff.1 h3).1).trans h3, h4⟩
theorem below_alc {W W' : World} {o : Obj} (h : Below (W.alloc o).heap.size (W.alloc o) W') : Below W.heap.size W W' := (below_box W o).trans (h.mono (by simp))
abbrev csZ0 : Array Value := #[.int .u8 0, .string ⟨#[]⟩, .int .i64 0, .slice none 0 0]
theorem below_st {w2 W : World} {b : Nat} (h : Below w2.heap.size w2 W) (hb : w2.heap.size ≤ b) (v0 v1 v2 v3 : Value) : Below w2.heap.size w2 ((((W.setCell ⟨b, 0, none⟩ v0).setCell ⟨b, 1, none⟩ v1).setCell ⟨b, 2, none⟩ v2).setCell ⟨b, 3, none⟩ v3) :=
  h.grown (set4_grown W b v0 v1 v2 v3) h.size (fun r e => by have := Option.some.inj e; omega)
theorem row_new {W W' : World} (h : Below (W.alloc (.cells csZ0 25)).heap.size (W.alloc (.cells csZ0 25)) W') : RowIs W' W.heap.size csZ0 := RowIs.below (RowIs.new W csZ0) h
theorem row_new2 {W W' : World} {o : Obj} (h : Below ((W.alloc (.cells csZ0 25)).alloc o).heap.size ((W.alloc (.cells csZ0 25)).alloc o) W') : RowIs W' W.heap.size csZ0 := RowIs.below ((RowIs.new W csZ0).alloc o) h
theorem row_new3 {W W' : World} {o : Obj} (h : Below ((W.alloc o).alloc (.cells csZ0 25)).heap.size ((W.alloc o).alloc (.cells csZ0 25)) W') : RowIs W' (W.heap.size + 1) csZ0 := by
  have := row_new h
  simpa using this
theorem row_newD {W W' : World} (h : Below (W.drew.alloc (.cells csZ0 25)).heap.size (W.drew.alloc (.cells csZ0 25)) W') : RowIs W' W.heap.size csZ0 := row_new (W := W.drew) h
theorem row_new2D {W W' : World} {o : Obj} (h : Below ((W.drew.alloc (.cells csZ0 25)).alloc o).heap.size ((W.drew.alloc (.cells csZ0 25)).alloc o) W') : RowIs W' W.heap.size csZ0 := row_new2 (W := W.drew) h
theorem row_new3D {W W' : World} {o : Obj} (h : Below ((W.drew.alloc o).alloc (.cells csZ0 25)).heap.size ((W.drew.alloc o).alloc (.cells csZ0 25)) W') : RowIs W' (W.heap.size + 1) csZ0 := row_new3 (W := W.drew) h

/-- Behind the region: all that is read later. -/
def FmMid (w : World) (h : Hd) (L : Nat) (q : Option Addr) (cap : Nat) (Tc Tn : Hd × Fo) (l : List Int) (e : Exit) (a : Act) (W : World) : Prop :=
  e = .normal ∧ ∃ q3 c3 q4 c4 av cv B3 B4, ∃ (u0 u7 u8 u9 u10 u11 u12 u13 u14 u15 u16 : Value), a = { tmps := #[u0, .pointer (some ⟨w.heap.size, 0, none⟩), .bool false, .pointer (some ⟨B3, 0, none⟩), .pointer (some ⟨B4, 0, none⟩), .slice av l.length cv, undef, u7, u8, u9, u10, u11, u12, u13, u14, u15, u16, undef, undef, undef, undef, undef, undef, undef, undef, undef, undef, undef, undef, undef, undef, undef, undef, undef, undef, undef, undef, undef, undef, undef, undef, undef, undef, undef, undef, undef, undef, undef, undef, undef, undef, undef, undef, undef, undef, undef, undef, undef, undef, undef, undef, undef, undef, undef, undef, undef, undef, undef, undef, undef, undef, undef, undef, undef, undef, undef, undef, undef, undef, undef, undef, undef, undef, undef, undef, undef], defers := [] } ∧
    FmB w h L q cap Tc Tn l q3 c3 q4 c4 av cv B3 B4 W
theorem fm_end {w w2 w3 w4 w5 X : World} {h : Hd} {L : Nat} {q : Option Addr} {cap : Nat} {Tc Tn : Hd × Fo} {l : List Int} {q3 : Option Addr} {c3 : Nat} {q4 : Option Addr} {c4 : Nat} {a : Option Addr} {cv B3 B4 : Nat} {F3 F4 : List Nat} {C N V : Nat}
    (hbw : Below w.heap.size w w2) (ht : w2.heap[w.heap.size]? = some (.cells #[.int .u8 h.op, .string h.name, .int .i64 h.n, .slice q L cap] 25 (0, 0)))
    (b3 : Below w2.heap.size w2 w3) (b4 : Below w3.heap.size w3 w4) (b5 : Below w4.heap.size w4 w5) (b6 : Below w5.heap.size w5 X)
    (o3 : OwnF w3 q3 Tc.2 F3) (l3 : Tc.2.len ≤ c3) (m3 : c3 ≤ maxLen) (hF3 : ∀ c ∈ F3, C ≤ c ∧ c < w3.heap.size) (o4 : OwnF w4 q4 Tn.2 F4) (l4 : Tn.2.len ≤ c4) (m4 : c4 ≤ maxLen) (hF4 : ∀ c ∈ F4, N ≤ c ∧ c < w4.heap.size)
    (hv : ∀ W : World, (∀ b, V ≤ b → b < w5.heap.size → W.heap[b]? = w5.heap[b]?) → IsAt W a cv l)
    (hC : w2.heap.size ≤ C ∧ C ≤ w3.heap.size) (hN : w3.heap.size ≤ N ∧ N ≤ w4.heap.size) (hV : w4.heap.size ≤ V ∧ V ≤ w5.heap.size)
    (r3 : RowIs X B3 csZ0) (r4 : RowIs X B4 csZ0) (hne : B3 ≠ B4) (p3 : w2.heap.size ≤ B3 ∧ (B3 < C ∨ w3.heap.size ≤ B3) ∧ (B3 < N ∨ w4.heap.size ≤ B3) ∧ (B3 < V ∨ w5.heap.size ≤ B3)) (p4 : w2.heap.size ≤ B4 ∧ (B4 < C ∨ w3.heap.size ≤ B4) ∧ (B4 < N ∨ w4.heap.size ≤ B4) ∧ (B4 < V ∨ w5.heap.size ≤ B4)) :
    FmB w h L q cap Tc Tn l q3 c3 q4 c4 a cv B3 B4 (World.set4 (World.set4 X B3 (.int .u8 Tc.1.op) (.string Tc.1.name) (.int .i64 Tc.1.n) (.slice q3 Tc.2.len c3)) B4 (.int .u8 Tn.1.op) (.string Tn.1.name) (.int .i64 Tn.1.n) (.slice q4 Tn.2.len c4)) := by
  have s3 := b3.size
  have s4 := b4.size
  have s5 := b5.size
  have s6 := b6.size
  have lt3 := r3.lt
  have lt4 := r4.lt
  have g1 := set4_grown X B3 (.int .u8 Tc.1.op) (.string Tc.1.name) (.int .i64 Tc.1.n) (.slice q3 Tc.2.len c3)
  have e1 := set4_row (W := X) r3 (.int .u8 Tc.1.op) (.string Tc.1.name) (.int .i64 Tc.1.n) (.slice q3 Tc.2.len c3)
  have r4' : RowIs (World.set4 X B3 (.int .u8 Tc.1.op) (.string Tc.1.name) (.int .i64 Tc.1.n) (.slice q3 Tc.2.len c3)) B4 csZ0 := (g1.block _ lt4 (fun e => hne (Option.some.inj e).symm)).trans r4
  generalize World.set4 X B3 (.int .u8 Tc.1.op) (.string Tc.1.name) (.int .i64 Tc.1.n) (.slice q3 Tc.2.len c3) = Y at *
  have z1 := g1.size
  have g2 := set4_grown Y B4 (.int .u8 Tn.1.op) (.string Tn.1.name) (.int .i64 Tn.1.n) (.slice q4 Tn.2.len c4)
  have e2 := set4_row (W := Y) r4' (.int .u8 Tn.1.op) (.string Tn.1.name) (.int .i64 Tn.1.n) (.slice q4 Tn.2.len c4)
  generalize World.set4 Y B4 (.int .u8 Tn.1.op) (.string Tn.1.name) (.int .i64 Tn.1.n) (.slice q4 Tn.2.len c4) = Z at *
  have kp : ∀ b, b < X.heap.size → b ≠ B3 → b ≠ B4 → Z.heap[b]? = X.heap[b]? := fun b h1 h2 h3 => (g2.block b (by omega) (fun e => h3 (Option.some.inj e))).trans (g1.block b h1 (fun e => h2 (Option.some.inj e)))
  have t2 := (Array.getElem?_eq_some_iff.1 ht).1
  have k5 : ∀ b, b < w5.heap.size → X.heap[b]? = w5.heap[b]? := fun b hb => b6.block b hb
  have k4 : ∀ b, b < w4.heap.size → w5.heap[b]? = w4.heap[b]? := fun b hb => b5.block b hb
  have k3 : ∀ b, b < w3.heap.size → w4.heap[b]? = w3.heap[b]? := fun b hb => b4.block b hb
  have k2 : ∀ b, b < w2.heap.size → w3.heap[b]? = w2.heap[b]? := fun b hb => b3.block b hb
  refine ⟨?_, (g2.block _ (by omega) (fun e => hne (Option.some.inj e))).trans e1, e2, ?_, ?_, ?_, ?_⟩
  · rw [kp _ (by omega) (by omega) (by omega), k5 _ (by omega), k4 _ (by omega), k3 _ (by omega), k2 _ t2]; exact ht
  · refine (o3.keep fun c hc => ?_).slF l3 m3
    have := hF3 c hc
    rw [kp c (by omega) (by omega) (by omega), k5 c (by omega), k4 c (by omega), k3 c (by omega)]
  · refine (o4.keep fun c hc => ?_).slF l4 m4
    have := hF4 c hc
    rw [kp c (by omega) (by omega) (by omega), k5 c (by omega), k4 c (by omega)]
  · exact hv _ (fun b h1 h2 => by rw [kp b (by omega) (by omega) (by omega), k5 b (by omega)])
  · have bX : Below w2.heap.size w2 X := b3.trans ((b4.trans ((b5.trans (b6.mono s5)).mono s4)).mono s3)
    have bX' := below_then hbw bX
    exact (bX'.grown g1 bX'.size (fun r e => by have := Option.some.inj e; have := hbw.size; omega)).grown g2 (by have := bX'.size; omega) (fun r e => by have := Option.some.inj e; have := hbw.size; omega)

/-- Two rows written, the rest as it was. -/
structure EndZ (W : World) (B3 B4 : Nat) (c3 c4 : Array Value) (Z : World) : Prop where
  size : W.heap.size ≤ Z.heap.size
  kp : ∀ b, b < W.heap.size → b ≠ B3 → b ≠ B4 → Z.heap[b]? = W.heap[b]?
  e1 : Z.heap[B3]? = some (.cells c3 25 (0, 0))
  e2 : Z.heap[B4]? = some (.cells c4 25 (0, 0))
theorem endC {W : World} {B3 B4 : Nat} (r3 : RowIs W B3 csZ0) (r4 : RowIs W B4 csZ0) (hn : B3 ≠ B4) (a0 a1 a2 a3 b0 b1 b2 b3 : Value) :
    EndZ W B3 B4 #[a0, a1, a2, a3] #[b0, b1, b2, b3] (((((((( W.setCell ⟨B3, 0, none⟩ a0).setCell ⟨B3, 1, none⟩ a1).setCell ⟨B3, 2, none⟩ a2).setCell ⟨B3, 3, none⟩ a3).setCell ⟨B4, 0, none⟩ b0).setCell ⟨B4, 1, none⟩ b1).setCell ⟨B4, 2, none⟩ b2).setCell ⟨B4, 3, none⟩ b3) := by
  have g1 := set4_grown W B3 a0 a1 a2 a3
  have f1 := set4_row (W := W) r3 a0 a1 a2 a3
  have h1 := g1.size
  have g2 := set4_grown (World.set4 W B3 a0 a1 a2 a3) B4 b0 b1 b2 b3
  have h2 := g2.size
  have l3 := r3.lt
  have l4 := r4.lt
  have f2 := set4_row (W := World.set4 W B3 a0 a1 a2 a3) (b := B4) ((g1.block _ l4 (fun e => hn (Option.some.inj e).symm)).trans r4) b0 b1 b2 b3
  exact ⟨Nat.le_trans h1 h2, fun b hb n3 n4 => (g2.block b (by omega) (fun e => n4 (Option.some.inj e))).trans (g1.block b hb (fun e => n3 (Option.some.inj e))), (g2.block _ (by omega) (fun e => hn (Option.some.inj e))).trans f1, f2⟩
theorem endA (W : World) (c3 c4 : Array Value) : EndZ W W.heap.size (W.heap.size + 1) c3 c4 ((W.alloc (.cells c3 25)).alloc (.cells c4 25)) :=
  have b1 := below_box W (.cells c3 25)
  have b2 := below_box (W.alloc (.cells c3 25)) (.cells c4 25)
  have h1 : (W.alloc (.cells c3 25)).heap.size = W.heap.size + 1 := by simp
  ⟨Nat.le_trans b1.size b2.size, fun b hb _ _ => (b2.block b (by omega)).trans (b1.block b hb), (b2.block _ (by omega)).trans (World.alloc_heap_new W _), by rw [← h1]; exact World.alloc_heap_new (W.alloc (.cells c3 25)) _⟩
theorem endA' (W : World) (c3 c4 : Array Value) : EndZ W (W.heap.size + 1) W.heap.size c3 c4 ((W.alloc (.cells c4 25)).alloc (.cells c3 25)) :=
  have h := endA W c4 c3
  ⟨h.size, fun b hb n3 n4 => h.kp b hb n4 n3, h.e2, h.e1⟩
theorem endB {W : World} {B3 : Nat} (r3 : RowIs W B3 csZ0) (a0 a1 a2 a3 : Value) (c4 : Array Value) :
    EndZ W B3 W.heap.size #[a0, a1, a2, a3] c4 (((((W.setCell ⟨B3, 0, none⟩ a0).setCell ⟨B3, 1, none⟩ a1).setCell ⟨B3, 2, none⟩ a2).setCell ⟨B3, 3, none⟩ a3).alloc (.cells c4 25)) := by
  have g1 := set4_grown W B3 a0 a1 a2 a3
  have f1 := set4_row (W := W) r3 a0 a1 a2 a3
  have h1 : (World.set4 W B3 a0 a1 a2 a3).heap.size = W.heap.size := by simp [World.set4]
  have b2 := below_box (World.set4 W B3 a0 a1 a2 a3) (.cells c4 25)
  have l3 := r3.lt
  refine ⟨by have := b2.size; unfold World.set4 at *; omega, fun b hb n3 n4 => (b2.block b (by omega)).trans (g1.block b hb (fun e => n3 (Option.some.inj e))), (b2.block _ (by omega)).trans f1, ?_⟩
  have := World.alloc_heap_new (World.set4 W B3 a0 a1 a2 a3) (.cells c4 25)
  rw [h1] at this
  exact this
theorem endB' {W : World} {B4 : Nat} (r4 : RowIs W B4 csZ0) (a0 a1 a2 a3 : Value) (c3 : Array Value) :
    EndZ W W.heap.size B4 c3 #[a0, a1, a2, a3] (((((W.setCell ⟨B4, 0, none⟩ a0).setCell ⟨B4, 1, none⟩ a1).setCell ⟨B4, 2, none⟩ a2).setCell ⟨B4, 3, none⟩ a3).alloc (.cells c3 25)) :=
  have h := endB r4 a0 a1 a2 a3 c3
  ⟨h.size, fun b hb n3 n4 => h.kp b hb n4 n3, h.e2, h.e1⟩
theorem fm_endZ {w w2 w3 w4 w5 Z : World} {h : Hd} {L : Nat} {q : Option Addr} {cap : Nat} {Tc Tn : Hd × Fo} {l : List Int} {q3 : Option Addr} {c3 : Nat} {q4 : Option Addr} {c4 : Nat} {a : Option Addr} {cv B3 B4 : Nat} {F3 F4 : List Nat} {C N V : Nat}
    (hbw : Below w.heap.size w w2) (ht : w2.heap[w.heap.size]? = some (.cells #[.int .u8 h.op, .string h.name, .int .i64 h.n, .slice q L cap] 25 (0, 0)))
    (b3 : Below w2.heap.size w2 w3) (b4 : Below w3.heap.size w3 w4) (b5 : Below w4.heap.size w4 w5)
    (o3 : OwnF w3 q3 Tc.2 F3) (l3 : Tc.2.len ≤ c3) (m3 : c3 ≤ maxLen) (hF3 : ∀ c ∈ F3, C ≤ c ∧ c < w3.heap.size) (o4 : OwnF w4 q4 Tn.2 F4) (l4 : Tn.2.len ≤ c4) (m4 : c4 ≤ maxLen) (hF4 : ∀ c ∈ F4, N ≤ c ∧ c < w4.heap.size)
    (hv : ∀ W : World, (∀ b, V ≤ b → b < w5.heap.size → W.heap[b]? = w5.heap[b]?) → IsAt W a cv l)
    (hC : w2.heap.size ≤ C ∧ C ≤ w3.heap.size) (hN : w3.heap.size ≤ N ∧ N ≤ w4.heap.size) (hV : w4.heap.size ≤ V ∧ V ≤ w5.heap.size)
    (hZ : Below w2.heap.size w2 Z) (E : EndZ w5 B3 B4 #[.int .u8 Tc.1.op, .string Tc.1.name, .int .i64 Tc.1.n, .slice q3 Tc.2.len c3] #[.int .u8 Tn.1.op, .string Tn.1.name, .int .i64 Tn.1.n, .slice q4 Tn.2.len c4] Z)
    (p3 : w2.heap.size ≤ B3 ∧ (B3 < C ∨ w3.heap.size ≤ B3) ∧ (B3 < N ∨ w4.heap.size ≤ B3) ∧ (B3 < V ∨ w5.heap.size ≤ B3)) (p4 : w2.heap.size ≤ B4 ∧ (B4 < C ∨ w3.heap.size ≤ B4) ∧ (B4 < N ∨ w4.heap.size ≤ B4) ∧ (B4 < V ∨ w5.heap.size ≤ B4)) :
    FmB w h L q cap Tc Tn l q3 c3 q4 c4 a cv B3 B4 Z := by
  have s3 := b3.size
  have s4 := b4.size
  have s5 := b5.size
  have kp := E.kp
  have t2 := (Array.getElem?_eq_some_iff.1 ht).1
  have k4 : ∀ b, b < w4.heap.size → w5.heap[b]? = w4.heap[b]? := fun b hb => b5.block b hb
  have k3 : ∀ b, b < w3.heap.size → w4.heap[b]? = w3.heap[b]? := fun b hb => b4.block b hb
  refine ⟨(hZ.block _ t2).trans ht, E.e1, E.e2, ?_, ?_, ?_, below_then hbw hZ⟩
  · refine (o3.keep fun c hc => ?_).slF l3 m3
    have := hF3 c hc
    rw [kp c (by omega) (by omega) (by omega), k4 c (by omega), k3 c (by omega)]
  · refine (o4.keep fun c hc => ?_).slF l4 m4
    have := hF4 c hc
    rw [kp c (by omega) (by omega) (by omega), k4 c (by omega)]
  · exact hv _ (fun b h1 h2 => by rw [kp b (by omega) (by omega) (by omega)])

/-- Numbers come back, in memory of the call's own. -/
def NsPost (w : World) (l : List Int) (e : Ending) (w' : World) : Prop := ∃ a c, e = .returned (.slice a l.length c) ∧ (∀ W : World, (∀ b, w.heap.size ≤ b → b < w'.heap.size → W.heap[b]? = w'.heap[b]?) → IsAt W a c l) ∧ Below w.heap.size w w'

theorem FmB.go {w : World} {h : Hd} {L : Nat} {q : Option Addr} {cap : Nat} {Tc Tn : Hd × Fo} {l : List Int} {q3 : Option Addr} {c3 : Nat} {q4 : Option Addr} {c4 : Nat} {a : Option Addr} {cv B3 B4 : Nat} {W W' : World} (h0 : FmB w h L q cap Tc Tn l q3 c3 q4 c4 a cv B3 B4 W) (hb : Below W.heap.size W W') : FmB w h L q cap Tc Tn l q3 c3 q4 c4 a cv B3 B4 W' :=
  ⟨(hb.block _ (Array.getElem?_eq_some_iff.1 h0.t).1).trans h0.t, (hb.block _ (Array.getElem?_eq_some_iff.1 h0.c).1).trans h0.c, (hb.block _ (Array.getElem?_eq_some_iff.1 h0.n).1).trans h0.n, h0.sc.below hb, h0.sn.below hb, h0.iv.below hb, below_then h0.below hb⟩
theorem FmB.cells {w : World} {h : Hd} {L : Nat} {q : Option Addr} {cap : Nat} {Tc Tn : Hd × Fo} {l : List Int} {q3 : Option Addr} {c3 : Nat} {q4 : Option Addr} {c4 : Nat} {a : Option Addr} {cv B3 B4 : Nat} {W : World} (h0 : FmB w h L q cap Tc Tn l q3 c3 q4 c4 a cv B3 B4 W) :
    W.cell? ⟨w.heap.size, 0, none⟩ = some (.int .u8 h.op) ∧ W.cell? ⟨w.heap.size, 1, none⟩ = some (.string h.name) ∧ W.cell? ⟨w.heap.size, 2, none⟩ = some (.int .i64 h.n) ∧ W.cell? ⟨w.heap.size, 3, none⟩ = some (.slice q L cap) ∧
    W.cell? ⟨B3, 0, none⟩ = some (.int .u8 Tc.1.op) ∧ W.cell? ⟨B3, 1, none⟩ = some (.string Tc.1.name) ∧ W.cell? ⟨B3, 2, none⟩ = some (.int .i64 Tc.1.n) ∧ W.cell? ⟨B3, 3, none⟩ = some (.slice q3 Tc.2.len c3) ∧
    W.cell? ⟨B4, 0, none⟩ = some (.int .u8 Tn.1.op) ∧ W.cell? ⟨B4, 1, none⟩ = some (.string Tn.1.name) ∧ W.cell? ⟨B4, 2, none⟩ = some (.int .i64 Tn.1.n) ∧ W.cell? ⟨B4, 3, none⟩ = some (.slice q4 Tn.2.len c4) := by
  obtain ⟨x0, x1, x2, x3, _⟩ := row4 h0.t
  obtain ⟨y0, y1, y2, y3, _⟩ := row4 h0.c
  obtain ⟨z0, z1, z2, z3, _⟩ := row4 h0.n
  exact ⟨x0, x1, x2, x3, y0, y1, y2, y3, z0, z1, z2, z3⟩
theorem atL_bd (l : List Int) (n : Int) : -1 ≤ atL l n ∧ atL l n ≤ l.length := by
  unfold atL
  split
  · have := List.idxOf_le_length (a := n) (l := l); omega
  · omega
theorem num_ok {l : List Int} {T : Hd × Fo} (h : T.1.ok ∧ T.2.ok) (hl : l.length ≤ 1099511627776) : (numG l T.1 T.2).1.ok ∧ (numG l T.1 T.2).2.ok := by
  have hh : ∀ h : Hd, h.ok → (numH l h).ok := fun h ho => by
    unfold numH
    split
    · have := atL_bd l h.n
      exact ⟨ho.op0, ho.op1, ho.name, by show _ ≤ atL l h.n; omega, by show atL l h.n ≤ _; omega⟩
    · exact ho
  have hf : ∀ f : Fo, f.ok → (numF l f).ok := by
    intro f
    induction f with
    | nil => intro _; trivial
    | cons h k r ihk ihr => intro ho; exact ⟨hh h ho.1, ihk ho.2.1, ihr ho.2.2⟩
  exact ⟨hh _ h.1, hf _ h.2⟩
end Go.Proofs.Ytmjijmkdeblefaa
