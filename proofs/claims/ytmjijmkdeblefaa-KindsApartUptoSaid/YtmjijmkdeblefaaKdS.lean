/- Field; the chapter's example. -/
import Derived.Test.YtmjijmkdeblefaaKdR
import Derived.Deep.RegionHeld3
import Derived.Deep.RegionWith
namespace Go.Proofs.Ytmjijmkdeblefaa
open Go.RowKit LM
set_option linter.unusedVariables false

/-- What Field answers. -/
def FieldPost (w : World) (name : ByteArray) (h0 : Hd) (k0 : Fo) (h1 : Hd) (k1 : Fo) (e : Ending) (w' : World) : Prop :=
  ∃ g, e = .returned (.agg #[.int .u8 11, .string name, .int .i64 0, .slice (some ⟨g, 0, none⟩) 2 2]) ∧ SlF w' (some ⟨g, 0, none⟩) 2 (.cons h0 k0 (.cons h1 k1 .nil)) ∧ Below w.heap.size w w'

theorem two_fo {w : World} {g : Nat} {h0 h1 : Hd} {k0 k1 : Fo} {q0 q1 : Option Addr} {cap0 cap1 : Nat}
    (hg : w.heap[g]? = some (.cells #[.int .u8 h0.op, .string h0.name, .int .i64 h0.n, .slice q0 k0.len cap0, .int .u8 h1.op, .string h1.name, .int .i64 h1.n, .slice q1 k1.len cap1] 25 (0, 0))) (s0 : SlF w q0 cap0 k0) (s1 : SlF w q1 cap1 k1) :
    SlF w (some ⟨g, 0, none⟩) 2 (.cons h0 k0 (.cons h1 k1 .nil)) := by
  refine ⟨Nat.le_refl _, by unfold maxLen; omega, fun _ => ⟨g, 0, rfl, q0, cap0, ⟨?_, ?_, ?_, ?_, s0.lc, s0.cm⟩, s0.at_, q1, cap1, ⟨?_, ?_, ?_, ?_, s1.lc, s1.cm⟩, s1.at_, trivial⟩⟩ <;> simp [World.cell?, hg]

set_option maxRecDepth 100000 in
theorem Field_any (name : ByteArray) (h0 : Hd) (k0 : Fo) (q0 : Option Addr) (cap0 : Nat) (h1 : Hd) (k1 : Fo) (q1 : Option Addr) (cap1 : Nat) (w : World) (s0 : SlF w q0 cap0 k0) (s1 : SlF w q1 cap1 k1) :
    Calls Try.prog 50 #[.string name, .agg #[.int .u8 h0.op, .string h0.name, .int .i64 h0.n, .slice q0 k0.len cap0], .agg #[.int .u8 h1.op, .string h1.name, .int .i64 h1.n, .slice q1 k1.len cap1]] w (FieldPost w name h0 k0 h1 k1) := by
  have H0 := Lib.hid s0
  have H1 := Lib.hid s1
  clear s0 s1
  go_enter Try.func50, Try.ntmps50
  go_wp2
  refine bodyPost_ret (v := .agg #[.int .u8 11, .string name, .int .i64 0, .slice (some ⟨w.heap.size + 1 + 1 + 1, 0, none⟩) 2 2]) (by simp [results, Try.results50, go_sem]) rfl ⟨_, rfl, ?_, ?_⟩
  · have hb : ∀ (o1 o2 o3 o4 : Obj), Below w.heap.size w ((((w.alloc o1).alloc o2).alloc o3).alloc o4) := fun o1 o2 o3 o4 => ((((Below.refl _ _).alloc (Nat.le_refl _) _).alloc (by simp) _).alloc (by simp; omega) _).alloc (by simp; omega) _
    refine two_fo ?_ (H0.out.below (hb _ _ _ _)) (H1.out.below (hb _ _ _ _))
    have := World.alloc_heap_new (((w.alloc (.cells #[.int .u8 h0.op, .string h0.name, .int .i64 h0.n, .slice q0 k0.len cap0] 25)).alloc (.cells #[.int .u8 h1.op, .string h1.name, .int .i64 h1.n, .slice q1 k1.len cap1] 25)).alloc (.cells #[.int .u8 11, .string name, .int .i64 0, .slice (some ⟨w.heap.size + 1 + 1 + 1, 0, none⟩) 2 2] 25)) (.cells #[.int .u8 h0.op, .string h0.name, .int .i64 h0.n, .slice q0 k0.len cap0, .int .u8 h1.op, .string h1.name, .int .i64 h1.n, .slice q1 k1.len cap1] 25)
    simpa only [World.size_alloc] using this
  · exact ((((Below.refl _ _).alloc (Nat.le_refl _) _).alloc (by simp) _).alloc (by simp; omega) _).alloc (by simp; omega) _

/-! ### The chapter's example -/
def exE : Hd := ⟨8, ⟨#[]⟩, 0⟩
def exI : Hd := ⟨1, ⟨#[]⟩, 0⟩
def exO : Hd := ⟨2, ⟨#[]⟩, 0⟩
def exA : Hd := ⟨11, ⟨#[97]⟩, 0⟩
def exB : Hd := ⟨11, ⟨#[98]⟩, 0⟩
def exKA : Fo := .cons exO .nil (.cons exE .nil .nil)
def exKB : Fo := .cons exI .nil (.cons exA exKA .nil)

theorem slF_nil (w : World) : SlF w none 0 .nil := ⟨Nat.le_refl _, by unfold maxLen; omega, fun h => by simp [Fo.len] at h⟩
/-- Block b is a row of types that holds cs. -/
def RowIs (w : World) (b : Nat) (cs : Array Value) : Prop := w.heap[b]? = some (.cells cs 25 (0, 0))
theorem RowIs.lt {b : Nat} {w : World} {cs : Array Value} (h : RowIs w b cs) : b < w.heap.size := (Array.getElem?_eq_some_iff.1 h).1
theorem RowIs.below {b : Nat} {w w' : World} {cs : Array Value} (h : RowIs w b cs) (hb : Below w.heap.size w w') : RowIs w' b cs := (hb.block b h.lt).trans h
theorem RowIs.alloc {b : Nat} {w : World} {cs : Array Value} (h : RowIs w b cs) (o : Obj) : RowIs (w.alloc o) b cs := h.below (below_box w o)
theorem RowIs.drew {b : Nat} {w : World} {cs : Array Value} (h : RowIs w b cs) : RowIs w.drew b cs := h
theorem RowIs.new (w : World) (cs : Array Value) : RowIs (w.alloc (.cells cs 25)) w.heap.size cs := World.alloc_heap_new w _
theorem RowIs.new_drew (w : World) (cs : Array Value) : RowIs (w.alloc (.cells cs 25)).drew w.heap.size cs := World.alloc_heap_new w _
theorem RowIs.set4 {b c : Nat} {w : World} {cs : Array Value} (h : RowIs w b cs) (hne : b ≠ c) (v0 v1 v2 v3 : Value) : RowIs (World.set4 w c v0 v1 v2 v3) b cs := ((set4_grown w c v0 v1 v2 v3).block b h.lt (fun e => hne (Option.some.inj e))).trans h
abbrev csE : Array Value := #[.int .u8 8, .string ⟨#[]⟩, .int .i64 0, .slice none 0 0]
abbrev csZ : Array Value := #[.int .u8 0, .string ⟨#[]⟩, .int .i64 0, .slice none 0 0]
abbrev csA : Array Value := #[.int .u8 2, .string ⟨#[]⟩, .int .i64 0, .slice none 0 0, .int .u8 8, .string ⟨#[]⟩, .int .i64 0, .slice none 0 0]
abbrev csB (g : Nat) : Array Value := #[.int .u8 1, .string ⟨#[]⟩, .int .i64 0, .slice none 0 0, .int .u8 11, .string ⟨#[97]⟩, .int .i64 0, .slice (some ⟨g, 0, none⟩) 2 2]

/-- What Field makes of two types, cell by cell. -/
def FieldRow (w : World) (name : ByteArray) (a0 a1 a2 a3 b0 b1 b2 b3 : Value) (e : Ending) (w' : World) : Prop :=
  ∃ g, e = .returned (.agg #[.int .u8 11, .string name, .int .i64 0, .slice (some ⟨g, 0, none⟩) 2 2]) ∧ w.heap.size ≤ g ∧ RowIs w' g #[a0, a1, a2, a3, b0, b1, b2, b3] ∧ Below w.heap.size w w'
set_option maxRecDepth 100000 in
theorem FieldRow_any (name : ByteArray) (o0 : Int) (n0 : ByteArray) (m0 : Int) (q0 : Option Addr) (l0 c0 : Nat) (o1 : Int) (n1 : ByteArray) (m1 : Int) (q1 : Option Addr) (l1 c1 : Nat) (w : World) :
    Calls Try.prog 50 #[.string name, .agg #[.int .u8 o0, .string n0, .int .i64 m0, .slice q0 l0 c0], .agg #[.int .u8 o1, .string n1, .int .i64 m1, .slice q1 l1 c1]] w (FieldRow w name (.int .u8 o0) (.string n0) (.int .i64 m0) (.slice q0 l0 c0) (.int .u8 o1) (.string n1) (.int .i64 m1) (.slice q1 l1 c1)) := by
  go_enter Try.func50, Try.ntmps50
  go_wp2
  refine bodyPost_ret (v := .agg #[.int .u8 11, .string name, .int .i64 0, .slice (some ⟨w.heap.size + 1 + 1 + 1, 0, none⟩) 2 2]) (by simp [results, Try.results50, go_sem]) rfl ⟨_, rfl, by omega, ?_, ?_⟩
  · unfold RowIs
    have := World.alloc_heap_new (((w.alloc (.cells #[.int .u8 o0, .string n0, .int .i64 m0, .slice q0 l0 c0] 25)).alloc (.cells #[.int .u8 o1, .string n1, .int .i64 m1, .slice q1 l1 c1] 25)).alloc (.cells #[.int .u8 11, .string name, .int .i64 0, .slice (some ⟨w.heap.size + 1 + 1 + 1, 0, none⟩) 2 2] 25)) (.cells #[.int .u8 o0, .string n0, .int .i64 m0, .slice q0 l0 c0, .int .u8 o1, .string n1, .int .i64 m1, .slice q1 l1 c1] 25)
    simpa only [World.size_alloc] using this
  · exact ((((Below.refl _ _).alloc (Nat.le_refl _) _).alloc (by simp) _).alloc (by simp; omega) _).alloc (by simp; omega) _

/-- Behind the example's row. -/
structure AliveW (w : World) (B g g2 : Nat) (w' : World) : Prop where
  rB : RowIs w' B #[.int .u8 11, .string ⟨#[98]⟩, .int .i64 0, .slice (some ⟨g2, 0, none⟩) 2 2]
  r2 : RowIs w' g2 (csB g)
  r1 : RowIs w' g csA
  rE : RowIs w' w.heap.size csE
  below : Below w.heap.size w w'
def AliveMid (w : World) : Exit → Act → World → Prop := fun e a w' => e = .normal ∧ ∃ B g g2, a = { tmps := #[.bool false, .pointer (some ⟨w.heap.size, 0, none⟩), .pointer (some ⟨B, 0, none⟩), undef, undef, .agg csE, .agg #[.int .u8 1, .string ⟨#[]⟩, .int .i64 0, .slice none 0 0], .agg #[.int .u8 2, .string ⟨#[]⟩, .int .i64 0, .slice none 0 0], .agg csE, .agg #[.int .u8 11, .string ⟨#[97]⟩, .int .i64 0, .slice (some ⟨g, 0, none⟩) 2 2], .agg #[.int .u8 11, .string ⟨#[98]⟩, .int .i64 0, .slice (some ⟨g2, 0, none⟩) 2 2], undef, undef, undef, undef, undef, undef, undef, undef, undef, undef, undef, undef, undef, undef, undef, undef, undef, undef, undef, undef, undef, undef, undef, undef, undef, undef, undef, undef, undef, undef, undef, undef, undef, undef, undef], defers := [] } ∧ AliveW w B g g2 w'
theorem drew_size (W : World) : W.drew.heap.size = W.heap.size := rfl
theorem below_go {w W w' : World} (h : Below w.heap.size w W) (hb : Below W.heap.size W w') : Below w.heap.size w w' := h.trans (hb.mono h.size)
theorem below_al {w W : World} (h : Below w.heap.size w W) (o : Obj) : Below w.heap.size w (W.alloc o) := h.alloc h.size o
theorem alive_new {w w4 : World} {g g2 : Nat} (hx : RowIs w4 w.heap.size csE) (h1 : RowIs w4 g csA) (h2 : RowIs w4 g2 (csB g)) (hb : Below w.heap.size w w4) :
    AliveW w w4.heap.size g g2 (w4.alloc (.cells #[.int .u8 11, .string ⟨#[98]⟩, .int .i64 0, .slice (some ⟨g2, 0, none⟩) 2 2] 25)) :=
  ⟨RowIs.new _ _, h2.alloc _, h1.alloc _, hx.alloc _, below_al hb _⟩
theorem alive_old {w w4 : World} {B g g2 : Nat} (hz : RowIs w4 B csZ) (hx : RowIs w4 w.heap.size csE) (h1 : RowIs w4 g csA) (h2 : RowIs w4 g2 (csB g)) (hb : Below w.heap.size w w4) (n1 : g ≠ B) (n2 : g2 ≠ B) (n3 : w.heap.size < B) :
    AliveW w B g g2 (World.set4 w4 B (.int .u8 11) (.string ⟨#[98]⟩) (.int .i64 0) (.slice (some ⟨g2, 0, none⟩) 2 2)) :=
  ⟨set4_row hz _ _ _ _, h2.set4 n2 _ _ _ _, h1.set4 n1 _ _ _ _, hx.set4 (by omega) _ _ _ _, hb.grown (set4_grown _ _ _ _ _ _) hb.size (fun r e => by have := Option.some.inj e; omega)⟩

theorem RowIs.cell {w : World} {b : Nat} {cs : Array Value} (h : RowIs w b cs) (i : Nat) : w.cell? ⟨b, i, none⟩ = cs[i]? := by simp [World.cell?, show w.heap[b]? = _ from h]
theorem AliveW.sl {w w' : World} {B g g2 : Nat} (h : AliveW w B g g2 w') : SlF w' (some ⟨g2, 0, none⟩) 2 exKB := by
  have s1 : SlF w' (some ⟨g, 0, none⟩) 2 exKA := two_fo (h0 := exO) (h1 := exE) (k0 := .nil) (k1 := .nil) (q0 := none) (q1 := none) (cap0 := 0) (cap1 := 0) h.r1 (slF_nil _) (slF_nil _)
  exact two_fo (h0 := exI) (h1 := exA) (k0 := .nil) (k1 := exKA) (q0 := none) (q1 := some ⟨g, 0, none⟩) (cap0 := 0) (cap1 := 2) h.r2 (slF_nil _) s1
theorem hd_ok {o : Int} {nm : ByteArray} (h0 : 0 ≤ o) (h1 : o ≤ 255) (h2 : nm.size ≤ 5) : Hd.ok ⟨o, nm, 0⟩ := ⟨h0, h1, by unfold maxLen; show nm.size ≤ _; omega, by show (-9223372036854775808 : Int) ≤ 0; omega, by show (0 : Int) ≤ _; omega⟩
theorem exB_ok : exB.ok := hd_ok (by omega) (by omega) (by decide)
theorem exKB_ok : exKB.ok := ⟨hd_ok (by omega) (by omega) (by decide), trivial, hd_ok (by omega) (by omega) (by decide), ⟨hd_ok (by omega) (by omega) (by decide), trivial, hd_ok (by omega) (by omega) (by decide), trivial, trivial⟩, trivial⟩
theorem exKB_right : rightB exB exKB 2 = true := by kernel_rfl
theorem ex_ok8 : exE.ok := hd_ok (by omega) (by omega) (by decide)
theorem ins_two {f1 f2 : Fld} (h : fldCmp f2 f1 < 0) : insF [f1, f2] = [f2, f1] := by
  have e : Sort.insertionSort (Go.Proofs.ltOf fldCmp) [f1, f2].toArray 0 2 = #[f2, f1] := by
    unfold Sort.insertionSort
    rw [Sort.insOuter, if_pos (by omega), Sort.insInner]
    have h1 : (Go.Proofs.ltOf fldCmp) f2 f1 = true := by simp [Go.Proofs.ltOf, h]
    simp [h1, Sort.insInner, Sort.swp]
    rw [Sort.insOuter, if_neg (by omega)]
  show (Sort.insertionSort (Go.Proofs.ltOf fldCmp) [f1, f2].toArray 0 2).toList = _
  rw [e]
theorem exKB_row : rowF exB exKB = ([(⟨#[98]⟩, exI, .nil), (⟨#[97]⟩, exO, .nil)], (exE, .nil)) := rfl
theorem exKB_few : (rowF exB exKB).1.length < 20 := by rw [exKB_row]; decide

theorem ex_fields {fs : List Fld} {th : Hd} {tk : Fo} (h : rowF exB exKB = (fs.map fun f => (f.name, f.h, f.k), (th, tk))) :
    th = exE ∧ tk = .nil ∧ fs.length = 2 ∧ ∃ f1 f2 : Fld, fldCells (insF fs) = [.string ⟨#[97]⟩, .int .u8 2, .string ⟨#[]⟩, .int .i64 0, .slice f2.q 0 f2.cap, .string ⟨#[98]⟩, .int .u8 1, .string ⟨#[]⟩, .int .i64 0, .slice f1.q 0 f1.cap] := by
  rw [exKB_row] at h
  obtain ⟨h1, h2⟩ := Prod.mk.inj h
  obtain ⟨rfl, rfl⟩ := Prod.mk.inj h2
  match fs, h1 with
  | [f1, f2], h1 =>
    obtain ⟨a1, a2, a3, a4, a5⟩ := f1
    obtain ⟨b1, b2, b3, b4, b5⟩ := f2
    simp at h1
    obtain ⟨⟨rfl, rfl, rfl⟩, rfl, rfl, rfl⟩ := h1
    refine ⟨rfl, rfl, rfl, ⟨⟨#[98]⟩, exI, a3, .nil, a5⟩, ⟨⟨#[97]⟩, exO, b3, .nil, b5⟩, ?_⟩
    rw [ins_two (by show Lib.compareBytes [97] [98] < 0; decide)]
    rfl
  | [], h1 => simp at h1
  | [_], h1 => simp at h1
  | _ :: _ :: _ :: _, h1 => simp at h1

set_option maxRecDepth 100000 in
set_option maxHeartbeats 4000000 in
theorem kalive_any (w : World) : Calls Try.prog 9 #[] w fun e w' => e = .returned (.bool true) ∧ Below w.heap.size w w' := by
  have HI := Lib.hid Int_any
  have HB := Lib.hid Bool_any
  have hx0 : RowIs (w.alloc (.cells #[.int .u8 8, .string ⟨#[]⟩, .int .i64 0, .slice none 0 0] 25)).drew w.heap.size csE := World.alloc_heap_new w _
  have hb00 : Below w.heap.size w (w.alloc (.cells #[.int .u8 8, .string ⟨#[]⟩, .int .i64 0, .slice none 0 0] 25)) := below_box _ _
  have hb0 : Below w.heap.size w (w.alloc (.cells #[.int .u8 8, .string ⟨#[]⟩, .int .i64 0, .slice none 0 0] 25)).drew := (below_box _ _).drew
  go_enter Try.func9, Try.ntmps9
  go_wp2
  refine wp_mono (Q := AliveMid w) ?_ ?_
  · go_region_with (first
      | (go_at_call 51; refine (HI.out _).mono ?_; rintro e w1 ⟨rfl, hbi⟩; have hx1 := RowIs.below (b := w.heap.size) (cs := csE) (by first | assumption | exact RowIs.alloc (by assumption) _ | exact RowIs.drew (RowIs.alloc (by assumption) _)) hbi; have hl1 := hx1.lt; have hw1 := below_go (w := w) (by first | assumption | exact below_al (by assumption) _ | exact Below.drew (below_al (by assumption) _)) hbi; obtain ⟨i0, i1, i2, i3, _⟩ := row4 hx1; have hsi := hbi.size; (first | (have hz1 := RowIs.below (cs := csZ) (RowIs.new _ _) hbi; (try simp only [World.size_alloc] at hz1); obtain ⟨za1, zb1, zc1, zd1, ze1, zf1, zg1, zh1⟩ := row4 hz1) | (have hz1 := RowIs.below (cs := csZ) (RowIs.new_drew _ _) hbi; (try simp only [World.size_alloc] at hz1); obtain ⟨za1, zb1, zc1, zd1, ze1, zf1, zg1, zh1⟩ := row4 hz1) | (have hz1 := RowIs.below (cs := csZ) (by assumption) hbi; obtain ⟨za1, zb1, zc1, zd1, ze1, zf1, zg1, zh1⟩ := row4 hz1) | skip))
      | (go_at_call 52; refine (HB.out _).mono ?_; rintro e w2 ⟨rfl, hbo⟩; have hx2 := RowIs.below (b := w.heap.size) (cs := csE) (by first | assumption | exact RowIs.alloc (by assumption) _) hbo; have hl2 := hx2.lt; have hw2 := below_go (w := w) (by first | assumption | exact below_al (by assumption) _ | exact Below.drew (below_al (by assumption) _)) hbo; obtain ⟨o0, o1, o2, o3, _⟩ := row4 hx2; have hso := hbo.size; (first | (have hz2 := RowIs.below (cs := csZ) (RowIs.new _ _) hbo; (try simp only [World.size_alloc] at hz2); obtain ⟨za2, zb2, zc2, zd2, ze2, zf2, zg2, zh2⟩ := row4 hz2) | (have hz2 := RowIs.below (cs := csZ) (RowIs.new_drew _ _) hbo; (try simp only [World.size_alloc] at hz2); obtain ⟨za2, zb2, zc2, zd2, ze2, zf2, zg2, zh2⟩ := row4 hz2) | (have hz2 := RowIs.below (cs := csZ) (by assumption) hbo; obtain ⟨za2, zb2, zc2, zd2, ze2, zf2, zg2, zh2⟩ := row4 hz2) | skip))
      | (go_at_call_of 50 (Value.int .u8 8); refine (FieldRow_any _ _ _ _ _ _ _ _ _ _ _ _ _ _).mono ?_; rintro e w3 ⟨g, rfl, hga, hra, hba⟩; have hx3 := RowIs.below (b := w.heap.size) (cs := csE) (by first | assumption | exact RowIs.alloc (by assumption) _) hba; have hl3 := hx3.lt; have hw3 := below_go (w := w) (by first | assumption | exact below_al (by assumption) _ | exact Below.drew (below_al (by assumption) _)) hba; have hsa := hba.size; have hlg := hra.lt; (first | (have hz3 := RowIs.below (cs := csZ) (RowIs.new _ _) hba; (try simp only [World.size_alloc] at hz3); obtain ⟨za3, zb3, zc3, zd3, ze3, zf3, zg3, zh3⟩ := row4 hz3) | (have hz3 := RowIs.below (cs := csZ) (RowIs.new_drew _ _) hba; (try simp only [World.size_alloc] at hz3); obtain ⟨za3, zb3, zc3, zd3, ze3, zf3, zg3, zh3⟩ := row4 hz3) | (have hz3 := RowIs.below (cs := csZ) (by assumption) hba; obtain ⟨za3, zb3, zc3, zd3, ze3, zf3, zg3, zh3⟩ := row4 hz3) | skip))
      | (go_at_call_of 50 (Value.int .u8 1); refine (FieldRow_any _ _ _ _ _ _ _ _ _ _ _ _ _ _).mono ?_; rintro e w4 ⟨g2, rfl, hgb, hrb, hbb⟩; have hx4 := RowIs.below (b := w.heap.size) (cs := csE) (by first | assumption | exact RowIs.alloc (by assumption) _) hbb; have hra4 := RowIs.below (cs := csA) (by first | exact hra | exact RowIs.alloc hra _) hbb; have hl4 := hx4.lt; have hw4 := below_go (w := w) (by first | assumption | exact below_al (by assumption) _ | exact Below.drew (below_al (by assumption) _)) hbb; have hsb := hbb.size; have hlg2 := hrb.lt; (first | (have hz4 := RowIs.below (cs := csZ) (RowIs.new _ _) hbb; (try simp only [World.size_alloc] at hz4); obtain ⟨za4, zb4, zc4, zd4, ze4, zf4, zg4, zh4⟩ := row4 hz4) | (have hz4 := RowIs.below (cs := csZ) (RowIs.new_drew _ _) hbb; (try simp only [World.size_alloc] at hz4); obtain ⟨za4, zb4, zc4, zd4, ze4, zf4, zg4, zh4⟩ := row4 hz4) | (have hz4 := RowIs.below (cs := csZ) (by assumption) hbb; obtain ⟨za4, zb4, zc4, zd4, ze4, zf4, zg4, zh4⟩ := row4 hz4) | skip)))
    all_goals (refine ⟨rfl, _, _, _, rfl, ?_⟩)
    all_goals first
      | exact alive_new hx4 hra4 hrb hw4
      | exact alive_old hz4 hx4 hra4 hrb hw4 (by first | omega | (simp only [drew_size, World.size_alloc] at hga hgb hsi hso hsa hsb; omega)) (by first | omega | (simp only [drew_size, World.size_alloc] at hga hgb hsi hso hsa hsb; omega)) (by first | omega | (simp only [drew_size, World.size_alloc] at hga hgb hsi hso hsa hsb; omega))
  · rintro e a w' ⟨rfl, B, g, g2, rfl, hA⟩
    obtain ⟨b0, b1, b2, b3, _⟩ := row4 hA.rB
    have hsl := hA.sl
    have HA := Lib.hid hA
    have HF := Lib.hid (Flat_few exB exKB (some ⟨g2, 0, none⟩) 2 w' exB_ok hsl exKB_ok (by decide) exKB_right exKB_few)
    clear hA hsl
    go_wp2_with fail
    refine HF.out.mono ?_
    rintro e w5 ⟨v, fs, th, tk, tq, tc, rfl, hown, hrow, hfs, ht, hb5⟩
    obtain ⟨rfl, rfl, hlen, f1, f2, hcells⟩ := ex_fields hrow
    rw [hcells, hlen] at hown
    obtain ⟨gv, cv, cur, rfl, _, _, hcv, hcm, hcell⟩ := own_some hown (by omega)
    have n0 := hcell 0 (.string ⟨#[97]⟩) rfl
    have n1 := hcell 1 (.int .u8 2) rfl
    have n5 := hcell 5 (.string ⟨#[98]⟩) rfl
    simp only [Nat.zero_add] at n0 n1 n5
    have hlv : gv < w5.heap.size := World.block_lt_of_cell? w5 _ n0
    have hE5 := HA.out.rE.below hb5
    obtain ⟨e0, e1, e2, e3, _⟩ := row4 hE5
    have hlE := hE5.lt
    have HB5 := Lib.hid hb5
    have HT := Lib.hid ht
    have HAl := Lib.hid fun (w' : World) (hb : Below w5.heap.size w5 w') => Alike_any 2 exE exE .nil .nil tq none tc 0 w' (by simp [Fo.size]) ex_ok8 ex_ok8 trivial trivial (ht.below hb) (slF_nil _)
    rw [alk_self] at HAl
    clear hown hcell hfs ht hrow hcells hb5 hE5
    go_wp2_with fail
    refine (HAl.out _ (below_box _ _)).mono ?_
    rintro e w6 ⟨rfl, hb6⟩
    have HB6 := Lib.hid hb6
    clear hb6
    go_wp2_with fail
    have c1 : Below w.heap.size w w5 := below_go HA.out.below HB5.out
    have c2 := below_go (below_al c1 _) HB6.out
    go_ret
    exact ⟨rfl, c2⟩

end Go.Proofs.Ytmjijmkdeblefaa
