/- flat: the fields of a row, as they lie. -/
import Derived.Deep.RegionLaw
import Derived.Outline
import Derived.Test.YtcjhgefkbnbmnaaPKdK
import Derived.Shelf.Small.Strs
import Derived.Test.YtcjhgefkbnbmnaaProg
import Derived.Shelf.SlSortCmp.InsertionK
import Derived.BigRegion
import Derived.RegionTactic
import Derived.StillTailTactics
import Derived.Deep.RegionHeld3
import Derived.Deep.RegionWith
import Derived.Maps.AppendAt
import Derived.IntWalk
namespace Go.Proofs.Ytcjhgefkbnbmnaa
open Go.RowKit LM
set_option linter.unusedVariables false

/-- A field, as it lies in a list of fields. -/
structure Fld where
  name : ByteArray
  h : Hd
  q : Option Addr
  k : Fo
  cap : Nat
instance : Inhabited Fld := ⟨⟨⟨#[]⟩, ⟨0, ⟨#[]⟩, 0⟩, none, .nil, 0⟩⟩
def Fld.enc (f : Fld) : List Value := [.string f.name, .int .u8 f.h.op, .string f.h.name, .int .i64 f.h.n, .slice f.q f.k.len f.cap]
def fldCells (l : List Fld) : List Value := l.flatMap Fld.enc
theorem length_fldCells (l : List Fld) : (fldCells l).length = l.length * 5 := by
  induction l with
  | nil => rfl
  | cons f l ih => simp only [fldCells, List.flatMap_cons, List.length_append] at ih ⊢; rw [ih]; simp [Fld.enc]; omega
theorem fldCells_snoc (l : List Fld) (f : Fld) : fldCells (l ++ [f]) = fldCells l ++ f.enc := by simp [fldCells]

/-- A row (h, k) in w: its fields from the outside to the inside, and its tail. -/
inductive RowCh (w : World) : Hd → Fo → Option Addr → Nat → List Fld → Hd → Fo → Option Addr → Nat → Prop
  | stop {h : Hd} {k : Fo} {q : Option Addr} {cap : Nat} (hop : h.op ≠ 11) (hs : SlF w q cap k) : RowCh w h k q cap [] h k q cap
  | step {h h0 h1 th : Hd} {k0 k1 r tk : Fo} {q0 q1 tq : Option Addr} {b o cap cap0 cap1 tc : Nat} {fs : List Fld} (hop : h.op = 11) (hcap : (Fo.cons h0 k0 (.cons h1 k1 r)).len ≤ cap ∧ cap ≤ maxLen)
      (a0 : HdAt w b o h0 q0 k0.len cap0) (a1 : HdAt w b (o + 4) h1 q1 k1.len cap1) (s0 : SlF w q0 cap0 k0) (s1 : SlF w q1 cap1 k1) (next : RowCh w h1 k1 q1 cap1 fs th tk tq tc) :
      RowCh w h (.cons h0 k0 (.cons h1 k1 r)) (some ⟨b, o, none⟩) cap (⟨h.name, h0, q0, k0, cap0⟩ :: fs) th tk tq tc

theorem RowCh.under {w w' : World} (hb : Below w.heap.size w w') {h : Hd} {k : Fo} {q : Option Addr} {cap : Nat} {fs : List Fld} {th : Hd} {tk : Fo} {tq : Option Addr} {tc : Nat} (hc : RowCh w h k q cap fs th tk tq tc) : RowCh w' h k q cap fs th tk tq tc := by
  induction hc with
  | stop hop hs => exact .stop hop (hs.below hb)
  | step hop hcap a0 a1 s0 s1 _ ih => exact .step hop hcap (a0.same (hb.block _ a0.lt)) (a1.same (hb.block _ a1.lt)) (s0.below hb) (s1.below hb) ih

/-- The fields of a row, and its tail, plainly. -/
def rowF : Hd → Fo → List (ByteArray × Hd × Fo) × (Hd × Fo)
  | h, .cons h0 k0 (.cons h1 k1 r) => if h.op = 11 then ((h.name, h0, k0) :: (rowF h1 k1).1, (rowF h1 k1).2) else ([], (h, .cons h0 k0 (.cons h1 k1 r)))
  | h, k => ([], (h, k))
/-- Each RField has two Kids at least. -/
def rowOK : Hd → Fo → Prop
  | h, .cons h0 k0 (.cons h1 k1 r) => h.op = 11 → rowOK h1 k1
  | h, _ => h.op ≠ 11

theorem RowCh.of {w : World} : ∀ (k : Fo) (h : Hd) (q : Option Addr) (cap : Nat), rowOK h k → SlF w q cap k → ∃ fs th tk tq tc, RowCh w h k q cap fs th tk tq tc ∧ rowF h k = (fs.map fun f => (f.name, f.h, f.k), (th, tk))
  | .nil, h, q, cap, hr, hs => ⟨[], h, .nil, q, cap, .stop hr hs, rfl⟩
  | .cons h0 k0 .nil, h, q, cap, hr, hs => ⟨[], h, _, q, cap, .stop hr hs, rfl⟩
  | .cons h0 k0 (.cons h1 k1 r), h, q, cap, hr, hs => by
    by_cases hop : h.op = 11
    · obtain ⟨b, o, rfl, q0, cap0, a0, s0, q1, cap1, a1, s1, _⟩ := hs.at_ (by simp [Fo.len])
      have s1' : SlF w q1 cap1 k1 := ⟨a1.lc, a1.cm, s1⟩
      obtain ⟨fs, th, tk, tq, tc, hc, he⟩ := RowCh.of k1 h1 q1 cap1 (hr hop) s1'
      refine ⟨_, th, tk, tq, tc, .step hop ⟨hs.lc, hs.cm⟩ a0 a1 ⟨a0.lc, a0.cm, s0⟩ s1' hc, ?_⟩
      rw [rowF, if_pos hop, he]; rfl
    · exact ⟨[], h, _, q, cap, .stop hop hs, by rw [rowF, if_neg hop]; rfl⟩
theorem RowCh.len {w : World} {h : Hd} {k : Fo} {q : Option Addr} {cap : Nat} {fs : List Fld} {th : Hd} {tk : Fo} {tq : Option Addr} {tc : Nat} (hc : RowCh w h k q cap fs th tk tq tc) : fs.length ≤ k.size := by
  induction hc with
  | stop hop hs => exact Nat.zero_le _
  | step hop hcap a0 a1 s0 s1 _ ih => simp [Fo.size] at ih ⊢; omega

theorem info37 : (Try.prog.info? 40).map (fun i => (i.zero, i.size, i.bytes)) = some (some (.agg #[.string ⟨#[]⟩, .int .u8 0, .string ⟨#[]⟩, .int .i64 0, .slice none 0 0]), 5, 72) := by kernel_rfl

end Go.Proofs.Ytcjhgefkbnbmnaa

namespace Go.Proofs
open Go.Shelf
def Try.lays106_ren : Go.Shelf.Ren := ⟨fun | 106 => 96 | 213 => 116 | 265 => 130 | n => n, fun | 9 => 9 | 3 => 3 | n => n, fun | n => n⟩
end Go.Proofs

namespace Go.Proofs.Ytcjhgefkbnbmnaa
open Go.RowKit LM Go.Shelf Go.Sort
set_option linter.unusedVariables false

def srtRen : Go.Shelf.Ren := ⟨fun | 20 => 128 | n => n, fun | 24 => 40 | 22 => 36 | 3 => 3 | 25 => 108 | 4 => 4 | 0 => 0 | n => n, fun | n => n⟩
/-- Two fields by their names. -/
def fldCmp (x y : Fld) : Int := Lib.compareBytes x.name.data.toList y.name.data.toList
/-- The order of fields that the insertion sort makes. -/
def insF (fs : List Fld) : List Fld := (Sort.insertionSort (ltOf fldCmp) fs.toArray 0 fs.length).toList

/-- What a sort of fields leaves. -/
def SrtPost (B : Nat) (v : Value) (fs : List Fld) (W : World) (e : Ending) (w' : World) : Prop := e = .returned (.tuple #[]) ∧ w'.ownsRow B 40 5 v fs.length (fldCells (insF fs)) ∧ W.grownBy w' v.ownBlock

end Go.Proofs.Ytcjhgefkbnbmnaa

namespace Go.Proofs.Ytcjhgefkbnbmnaa
open Go.RowKit LM
set_option linter.unusedVariables false

theorem own_base {w : World} {B B' : Nat} {e : TypeId} {size : Nat} {v : Value} {n : Nat} {xs : List Value} (h : w.ownsRow B e size v n xs) (hb : B' ≤ B) : w.ownsRow B' e size v n xs := by
  refine ⟨h.1, h.2.imp id ?_⟩
  rintro ⟨g, cap, cur, h1, h2, h3⟩
  exact ⟨g, cap, cur, h1, Nat.le_trans hb h2, h3⟩
/-- What flat keeps while it goes down the row. -/
structure FlatI (w : World) (fs pre rest : List Fld) (h : Hd) (k : Fo) (q : Option Addr) (cap : Nat) (th : Hd) (tk : Fo) (tq : Option Addr) (tc : Nat) (v : Value) (wr : World) : Prop where
  eq : fs = pre ++ rest
  own : wr.ownsRow (w.heap.size + 2) 40 5 v pre.length (fldCells pre)
  ch : RowCh w h k q cap rest th tk tq tc
  box : wr.heap[w.heap.size]? = some (.cells #[.int .u8 h.op, .string h.name, .int .i64 h.n, .slice q k.len cap] 25 (0, 0))
  res : wr.heap[w.heap.size + 1]? = some (.cells #[.int .u8 0, .string ⟨#[]⟩, .int .i64 0, .slice none 0 0] 25 (0, 0))
  below : Below w.heap.size w wr
  room : w.heap.size + 2 ≤ wr.heap.size

theorem row4 {w : World} {b : Nat} {v0 v1 v2 v3 : Value} {t : TypeId} (h : w.heap[b]? = some (.cells #[v0, v1, v2, v3] t (0, 0))) :
    w.cell? ⟨b, 0, none⟩ = some v0 ∧ w.cell? ⟨b, 1, none⟩ = some v1 ∧ w.cell? ⟨b, 2, none⟩ = some v2 ∧ w.cell? ⟨b, 3, none⟩ = some v3 ∧ w.frozen? ⟨b, 0, none⟩ = false ∧ w.frozen? ⟨b, 1, none⟩ = false ∧ w.frozen? ⟨b, 2, none⟩ = false ∧ w.frozen? ⟨b, 3, none⟩ = false := by
  simp [World.cell?, World.frozen?, h]

/-- What flat answers. -/
def FlatPost (w : World) (fs : List Fld) (th : Hd) (tk : Fo) (tq : Option Addr) (tc : Nat) (e : Ending) (w' : World) : Prop :=
  ∃ v, e = .returned (.tuple #[v, .agg #[.int .u8 th.op, .string th.name, .int .i64 th.n, .slice tq tk.len tc]]) ∧ w'.ownsRow w.heap.size 40 5 v fs.length (fldCells (insF fs)) ∧ Below w.heap.size w w'

theorem fld_one (f : Fld) : ∀ u ∈ f.enc, u.oneCell' = true := by
  intro u hu
  simp [Fld.enc] at hu
  rcases hu with rfl | rfl | rfl | rfl | rfl <;> rfl
theorem cells_new (w : World) (cs : List Value) (t : TypeId) : ∀ j u, cs[j]? = some u → (w.alloc (.cells cs.toArray t)).cell? ((⟨w.heap.size, 0, none⟩ : Addr).add j) = some u := by
  intro j u hj
  have := World.alloc_heap_new w (.cells cs.toArray t)
  simp only [Addr.add_lit, World.cell?, this]
  simpa using hj

end Go.Proofs.Ytcjhgefkbnbmnaa

namespace Go.Proofs.Ytcjhgefkbnbmnaa
open Go.RowKit LM
set_option linter.unusedVariables false

theorem RowCh.mem {w : World} {h : Hd} {k : Fo} {q : Option Addr} {cap : Nat} {fs : List Fld} {th : Hd} {tk : Fo} {tq : Option Addr} {tc : Nat} (hc : RowCh w h k q cap fs th tk tq tc) : (∀ f ∈ fs, SlF w f.q f.cap f.k) ∧ SlF w tq tc tk := by
  induction hc with
  | stop hop hs => exact ⟨by simp, hs⟩
  | step hop hcap a0 a1 s0 s1 _ ih =>
    refine ⟨fun f hf => ?_, ih.2⟩
    rcases List.mem_cons.1 hf with rfl | h
    · exact s0
    · exact ih.1 f h

theorem shapes_cons (h : Hd) (k r : Fo) (s : Nat) (ss : List Nat) : (Fo.cons h k r).shapes (s :: ss) = ((Fo.cons h k .nil).shapes [s] && r.shapes ss) := by simp [Fo.shapes]
theorem shapes_rowOK : ∀ (k : Fo) (h : Hd), (Fo.cons h k .nil).shapes [2] = true → rowOK h k := by
  have key : ∀ (n : Nat) (k : Fo) (h : Hd), k.size ≤ n → (Fo.cons h k .nil).shapes [2] = true → rowOK h k := by
    intro n
    induction n with
    | zero =>
      intro k h hn hs
      cases k with
      | nil =>
        show h.op ≠ 11
        intro e
        simp [Fo.shapes, kidsL, e] at hs
      | cons h0 k0 r => simp [Fo.size] at hn
    | succ n ih =>
      intro k h hn hs
      cases k with
      | nil =>
        show h.op ≠ 11
        intro e
        simp [Fo.shapes, kidsL, e] at hs
      | cons h0 k0 r =>
        cases r with
        | nil =>
          show h.op ≠ 11
          intro e
          simp [Fo.shapes, kidsL, e] at hs
        | cons h1 k1 r =>
          show h.op = 11 → rowOK h1 k1
          intro e
          refine ih k1 h1 (by simp [Fo.size] at hn; omega) ?_
          have h2 : (Fo.cons h0 k0 (.cons h1 k1 r)).shapes [1, 2] = true := by
            simp only [Fo.shapes, kidsL, e] at hs
            simp at hs
            exact hs.2
          rw [shapes_cons] at h2
          simp at h2
          have h3 := h2.2
          rw [shapes_cons] at h3
          simpa using (Bool.and_eq_true_iff.1 h3).1
  exact fun k h => key k.size k h (Nat.le_refl _)
theorem bcell {W w1 : World} (hb : Below W.heap.size W w1) : (∀ b o, b < W.heap.size → w1.cell? ⟨b, o, none⟩ = W.cell? ⟨b, o, none⟩) ∧ (∀ b o, b < W.heap.size → w1.frozen? ⟨b, o, none⟩ = W.frozen? ⟨b, o, none⟩) :=
  ⟨fun b o h => hb.cell (p := ⟨b, o, none⟩) h, fun b o h => hb.frozen (p := ⟨b, o, none⟩) h⟩

theorem two_boxes {w w1 : World} {v0 v1 v2 v3 u0 u1 u2 u3 : Value} (hb : Below ((w.alloc (.cells #[v0, v1, v2, v3] 25)).alloc (.cells #[u0, u1, u2, u3] 25)).heap.size ((w.alloc (.cells #[v0, v1, v2, v3] 25)).alloc (.cells #[u0, u1, u2, u3] 25)) w1) :
    Below w.heap.size w w1 ∧ w1.heap[w.heap.size]? = some (.cells #[v0, v1, v2, v3] 25 (0, 0)) ∧ w1.heap[w.heap.size + 1]? = some (.cells #[u0, u1, u2, u3] 25 (0, 0)) := by
  have e1 := World.alloc_heap_new w (.cells #[v0, v1, v2, v3] 25)
  have e2 := World.alloc_heap_new (w.alloc (.cells #[v0, v1, v2, v3] 25)) (.cells #[u0, u1, u2, u3] 25)
  rw [World.size_alloc] at e2
  exact ⟨(((Below.refl _ _).alloc (Nat.le_refl _) _).alloc (by simp) _).trans (hb.mono (by simp; omega)), (hb.block _ (by simp; omega)).trans (((below_box _ _).block _ (by simp)).trans e1), (hb.block _ (by simp)).trans e2⟩

/-- What Flat answers of a row with few fields. -/
def FlatR (w : World) (h : Hd) (k : Fo) (e : Ending) (w' : World) : Prop :=
  ∃ v fs th tk tq tc, e = .returned (.tuple #[v, .agg #[.int .u8 th.op, .string th.name, .int .i64 th.n, .slice tq tk.len tc]]) ∧ w'.ownsRow w.heap.size 40 5 v fs.length (fldCells (insF fs)) ∧
    rowF h k = (fs.map fun f => (f.name, f.h, f.k), (th, tk)) ∧ (∀ f ∈ fs, SlF w' f.q f.cap f.k) ∧ SlF w' tq tc tk ∧ Below w.heap.size w w'

end Go.Proofs.Ytcjhgefkbnbmnaa

namespace Go.Proofs.Ytcjhgefkbnbmnaa
open Go.RowKit LM
set_option linter.unusedVariables false

open Classical in
/-- Are two trees alike? -/
noncomputable def alk (a b : Hd × Fo) : Bool := decide (a = b)
theorem alk_self (a : Hd × Fo) : alk a a = true := by simp [alk]
theorem alk_no {a b : Hd × Fo} (h : a ≠ b) : alk a b = false := by simp [alk, h]

theorem Fo.ext_get : ∀ {k k' : Fo}, k.len = k'.len → (∀ i, i < k.len → k.get i = k'.get i) → k = k'
  | .nil, .nil, _, _ => rfl
  | .nil, .cons _ _ _, h, _ => by simp [Fo.len] at h
  | .cons _ _ _, .nil, h, _ => by simp [Fo.len] at h
  | .cons h k r, .cons h' k' r', hl, hg => by
    have h0 := hg 0 (by simp [Fo.len])
    rw [Fo.get_zero, Fo.get_zero] at h0
    obtain ⟨rfl, rfl⟩ := Prod.mk.inj h0
    have := Fo.ext_get (k := r) (k' := r') (by simpa [Fo.len] using hl) (fun i hi => by
      have := hg (i + 1) (by simp [Fo.len]; exact hi)
      rwa [Fo.get_succ, Fo.get_succ] at this)
    rw [this]
theorem Fo.get_size : ∀ {k : Fo} {i : Nat}, i < k.len → (k.get i).2.size < k.size
  | .nil, _, h => by simp [Fo.len] at h
  | .cons h k r, 0, _ => by rw [Fo.get_zero]; simp [Fo.size]; omega
  | .cons h k r, i + 1, hi => by
    rw [Fo.get_succ]
    have := Fo.get_size (k := r) (i := i) (by simpa [Fo.len] using hi)
    simp [Fo.size]; omega

theorem toList_inj {a b : ByteArray} (e : a.toList = b.toList) : a = b := by
  have := congrArg List.toArray e
  rw [ByteArray.toList_eq, ByteArray.toList_eq] at this
  cases a; cases b; simpa using this

/-- What Alike keeps while it goes along the Kids. -/
structure AlkI (w : World) (op : Int) (name : ByteArray) (n : Int) (k k' : Fo) (q q' : Option Addr) (L cap cap' j : Nat) (wr : World) : Prop where
  le : j ≤ L
  al : ∀ i, i < j → k.get i = k'.get i
  b0 : wr.heap[w.heap.size]? = some (.cells #[.int .u8 op, .string name, .int .i64 n, .slice q L cap] 25 (0, 0))
  b1 : wr.heap[w.heap.size + 1]? = some (.cells #[.int .u8 op, .string name, .int .i64 n, .slice q' L cap'] 25 (0, 0))
  below : Below w.heap.size w wr

theorem AlkI.go {w : World} {op : Int} {name : ByteArray} {n : Int} {k k' : Fo} {q q' : Option Addr} {L cap cap' j : Nat} {wr w2 : World} (h : AlkI w op name n k k' q q' L cap cap' j wr) (hb : Below wr.drew.heap.size wr.drew w2) (hj : j < L) (he : k.get j = k'.get j) :
    AlkI w op name n k k' q q' L cap cap' (j + 1) w2 :=
  ⟨hj, fun i hi => by
    by_cases hij : i = j
    · rw [hij]; exact he
    · exact h.al i (by omega), (hb.block _ (Array.getElem?_eq_some_iff.1 h.b0).1).trans h.b0, (hb.block _ (Array.getElem?_eq_some_iff.1 h.b1).1).trans h.b1, h.below.drew.trans (hb.mono h.below.size)⟩

set_option maxRecDepth 100000 in
set_option maxHeartbeats 1000000 in
theorem Alike_any : ∀ (n : Nat) (h h' : Hd) (k k' : Fo) (q q' : Option Addr) (cap cap' : Nat) (w : World), k.size < n → h.ok → h'.ok → k.ok → k'.ok → SlF w q cap k → SlF w q' cap' k' →
    Calls Try.prog 16 #[.agg #[.int .u8 h.op, .string h.name, .int .i64 h.n, .slice q k.len cap], .agg #[.int .u8 h'.op, .string h'.name, .int .i64 h'.n, .slice q' k'.len cap']] w fun e w' => e = .returned (.bool (alk (h, k) (h', k'))) ∧ Below w.heap.size w w' := by
  intro n
  induction n with
  | zero => intro h h' k k' q q' cap cap' w hn; omega
  | succ n ih =>
    intro h h' k k' q q' cap cap' w hn hh hh' hk hk' hs hs'
    obtain ⟨op, name, nn⟩ := h
    obtain ⟨op', name', nn'⟩ := h'
    by_cases hop : op = op'
    · subst hop
      by_cases hnm : name = name'
      · subst hnm
        by_cases hnn : nn = nn'
        · subst hnn
          by_cases hL : k.len = k'.len
          · -- alike but for the Kids
            have HE : Hid ((∀ i, i < k.len → k.get i = k'.get i) → alk (⟨op, name, nn⟩, k) (⟨op, name, nn⟩, k') = true) := Lib.hid (fun h => by rw [Fo.ext_get hL h]; exact alk_self _)
            have HF : Hid (∀ i, k.get i ≠ k'.get i → alk (⟨op, name, nn⟩, k) (⟨op, name, nn⟩, k') = false) := Lib.hid (fun i h => alk_no (fun e => h (by rw [(Prod.mk.inj e).2])))
            have hst : ∀ o1 : Obj, AlkI w op name nn k k' q q' k.len cap cap' 0 ((w.alloc (.cells #[.int .u8 op, .string name, .int .i64 nn, .slice q k.len cap] 25)).alloc (.cells #[.int .u8 op, .string name, .int .i64 nn, .slice q' k.len cap'] 25)) := fun _ => by
              have := two_boxes (Below.refl ((w.alloc (.cells #[.int .u8 op, .string name, .int .i64 nn, .slice q k.len cap] 25)).alloc (.cells #[.int .u8 op, .string name, .int .i64 nn, .slice q' k.len cap'] 25)).heap.size _)
              exact ⟨Nat.zero_le _, fun i h => by omega, this.2.1, this.2.2, this.1⟩
            have HST := Lib.hid (hst (.cells #[] 0))
            have HS := Lib.hid hs
            have HS' := Lib.hid hs'
            have HL := Lib.hid hL
            have HIH := Lib.hid ih
            have hcl := hs.lc
            have hcl' := hs'.lc
            have hcm := hs.cm
            have hcm' := hs'.cm
            unfold maxLen at hcm hcm'
            rw [← hL] at hcl' ⊢
            clear hst hs hs' hL ih
            generalize alk (⟨op, name, nn⟩, k) (⟨op, name, nn⟩, k') = r at *
            generalize hLd : k.len = L at *
            have HLD := Lib.hid hLd
            clear hLd
            go_enter Try.func16, Try.ntmps16
            go_wp2
            go_loopw [5] (fun i wr => ∃ j : Nat, i = .int .i64 j ∧ AlkI w op name nn k k' q q' L cap cap' j wr) (fun i _ => L - (intOf i).toNat)
            case atStart => exact ⟨0, rfl, HST.out⟩
            case round =>
              obtain ⟨j, rfl, hI⟩ := hrel
              obtain ⟨x0, x1, x2, x3, _⟩ := row4 hI.b0
              obtain ⟨y0, y1, y2, y3, _⟩ := row4 hI.b1
              have hjL := hI.le
              have HI := Lib.hid hI
              clear hI
              by_cases hj : j < L
              · have hjk : j < k.len := by rw [HLD.out]; exact hj
                have hjk' : j < k'.len := by rw [← HL.out]; exact hj
                obtain ⟨b, o, rfl, hfo⟩ := ((HS.out.below HI.out.below).at_ (Nat.lt_of_le_of_lt (Nat.zero_le _) hjk))
                obtain ⟨b', o', rfl, hfo'⟩ := ((HS'.out.below HI.out.below).at_ (Nat.lt_of_le_of_lt (Nat.zero_le _) hjk'))
                obtain ⟨q1, cap1, hd1, hs1⟩ := hfo.get j hjk
                obtain ⟨q2, cap2, hd2, hs2⟩ := hfo'.get j hjk'
                have c0 := hd1.c0
                have c1 := hd1.c1
                have c2 := hd1.c2
                have c3 := hd1.c3
                have d0 := hd2.c0
                have d1 := hd2.c1
                have d2 := hd2.c2
                have d3 := hd2.c3
                have ho1 := Fo.ok_get hk j hjk
                have ho2 := Fo.ok_get hk' j hjk'
                have hsz := Fo.get_size hjk
                have HC := Lib.hid fun w => HIH.out (k.get j).1 (k'.get j).1 (k.get j).2 (k'.get j).2 q1 q2 cap1 cap2 w (by omega) ho1.1 ho2.1 ho1.2 ho2.2
                have HS1 := Lib.hid hs1
                have HS2 := Lib.hid hs2
                have hj0 : (j : Int) < L := by omega
                have hj1 : (0 : Int) ≤ j := by omega
                have hbd : ∀ w0 : World, Below w0.heap.size w0 w0.drew := fun w0 => (Below.refl _ _).drew
                have HBD := Lib.hid (hbd wr)
                clear hd1 hd2 hfo hfo' hs1 hs2 ho1 ho2 hsz hbd
                by_cases heq : k.get j = k'.get j
                · have hat : alk ((k.get j).1, (k.get j).2) ((k'.get j).1, (k'.get j).2) = true := by rw [heq]; exact alk_self _
                  have HEQ := Lib.hid heq
                  rw [hat] at HC
                  clear heq hat
                  generalize (k.get j).1.op = g1 at *
                  generalize (k.get j).1.name = g2 at *
                  generalize (k.get j).1.n = g3 at *
                  generalize (k'.get j).1.op = g5 at *
                  generalize (k'.get j).1.name = g6 at *
                  generalize (k'.get j).1.n = g7 at *
                  go_wp2
                  go_still_tail 10, (by kernel_rfl)
                  change wpList _ _ _ _ _ wr.drew
                  go_wp2_with (go_at_call 16; refine (HC.out _ (HS1.out.below HBD.out) (HS2.out.below HBD.out)).mono ?_; rintro e w2 ⟨rfl, hb2⟩; have HB2 := Lib.hid hb2; clear hb2)
                  go_roundw
                  case rel => exact ⟨j + 1, by go_num, HI.out.go HB2.out hj HEQ.out⟩
                  case measure => simp [intOf]; omega
                · have hat : alk ((k.get j).1, (k.get j).2) ((k'.get j).1, (k'.get j).2) = false := alk_no heq
                  have hr := HF.out j heq
                  have HR := Lib.hid hr
                  rw [hat] at HC
                  clear heq hat hr
                  generalize (k.get j).1.op = g1 at *
                  generalize (k.get j).1.name = g2 at *
                  generalize (k.get j).1.n = g3 at *
                  generalize (k'.get j).1.op = g5 at *
                  generalize (k'.get j).1.name = g6 at *
                  generalize (k'.get j).1.n = g7 at *
                  go_wp2
                  go_still_tail 10, (by kernel_rfl)
                  change wpList _ _ _ _ _ wr.drew
                  go_wp2_with (go_at_call 16; refine (HC.out _ (HS1.out.below HBD.out) (HS2.out.below HBD.out)).mono ?_; rintro e w2 ⟨rfl, hb2⟩; have HB2 := Lib.hid hb2; clear hb2)
                  go_ret
                  exact ⟨ret_bool HR.out.symm, HI.out.below.drew.trans (HB2.out.mono HI.out.below.size)⟩
              · have hje : j = L := by omega
                have HJ := Lib.hid hje
                clear hje
                go_wp2
                go_ret
                exact ⟨ret_bool (HE.out (fun i hi => HI.out.al i (by rw [HJ.out]; exact hi))).symm, HI.out.below⟩
          · have hL' : ((k.len : Int) != k'.len) = true := by simp; omega
            have HN : Hid (alk (⟨op, name, nn⟩, k) (⟨op, name, nn⟩, k') = false) := Lib.hid (alk_no (fun e => hL (by rw [(Prod.mk.inj e).2])))
            clear hL
            go_enter Try.func16, Try.ntmps16
            go_wp2
            go_ret
            exact ⟨ret_bool HN.out.symm, ((Below.refl _ _).alloc (Nat.le_refl _) _).alloc (by simp) _⟩
        · have HN : Hid (alk (⟨op, name, nn⟩, k) (⟨op, name, nn'⟩, k') = false) := Lib.hid (alk_no (fun e => hnn (congrArg (fun x => x.1.n) e)))
          have hnn' : (nn != nn') = true := by simpa using hnn
          clear hnn
          go_enter Try.func16, Try.ntmps16
          go_wp2
          go_ret
          exact ⟨ret_bool HN.out.symm, ((Below.refl _ _).alloc (Nat.le_refl _) _).alloc (by simp) _⟩
      · have HN : Hid (alk (⟨op, name, nn⟩, k) (⟨op, name', nn'⟩, k') = false) := Lib.hid (alk_no (fun e => hnm (congrArg (fun x => x.1.name) e)))
        have hnm' : (name.toList == name'.toList) = false := by rw [beq_eq_false_iff_ne]; exact fun e => hnm (toList_inj e)
        clear hnm
        go_enter Try.func16, Try.ntmps16
        go_wp2
        go_ret
        exact ⟨ret_bool HN.out.symm, ((Below.refl _ _).alloc (Nat.le_refl _) _).alloc (by simp) _⟩
    · have hop' : (op != op') = true := by simpa using hop
      have HN : Hid (alk (⟨op, name, nn⟩, k) (⟨op', name', nn'⟩, k') = false) := Lib.hid (alk_no (fun e => hop (congrArg (fun x => x.1.op) e)))
      clear hop
      go_enter Try.func16, Try.ntmps16
      go_wp2
      go_ret
      exact ⟨ret_bool HN.out.symm, ((Below.refl _ _).alloc (Nat.le_refl _) _).alloc (by simp) _⟩

end Go.Proofs.Ytcjhgefkbnbmnaa

namespace Go.Proofs.Ytcjhgefkbnbmnaa
open Go.RowKit LM
set_option linter.unusedVariables false

/-- A part as it lies: its head, its Kids' place. -/
structure PV where
  h : Hd
  q : Option Addr
  len : Nat
  cap : Nat
def PV.enc (p : PV) : List Value := [.int .u8 p.h.op, .string p.h.name, .int .i64 p.h.n, .slice p.q p.len p.cap]
def pvCells (l : List PV) : List Value := l.flatMap PV.enc
theorem pvCells_append (a b : List PV) : pvCells (a ++ b) = pvCells a ++ pvCells b := by simp [pvCells]
theorem pv_one (l : List PV) : ∀ u ∈ pvCells l, u.oneCell' = true := by
  intro u hu
  obtain ⟨p, _, hp⟩ := List.mem_flatMap.1 hu
  simp [PV.enc] at hp
  rcases hp with rfl | rfl | rfl | rfl <;> rfl
theorem pvCells_get : ∀ (l : List PV) (i : Nat) (p : PV), l[i]? = some p → (pvCells l)[i * 4]? = some (.int .u8 p.h.op) ∧ (pvCells l)[i * 4 + 2]? = some (.int .i64 p.h.n)
  | [], i, p, h => by simp at h
  | x :: l, 0, p, h => by simp at h; subst h; exact ⟨rfl, rfl⟩
  | x :: l, i + 1, p, h => by
    have := pvCells_get l i p (by simpa using h)
    have e : pvCells (x :: l) = [.int .u8 x.h.op, .string x.h.name, .int .i64 x.h.n, .slice x.q x.len x.cap] ++ pvCells l := rfl
    have e1 : (i + 1) * 4 = i * 4 + 4 := by omega
    rw [e, e1]
    refine ⟨?_, ?_⟩
    · rw [List.getElem?_append_right (by simp)]; simpa using this.1
    · rw [List.getElem?_append_right (by simp)]
      have : i * 4 + 4 + 2 - [Value.int .u8 x.h.op, .string x.h.name, .int .i64 x.h.n, .slice x.q x.len x.cap].length = i * 4 + 2 := by simp
      rw [this]; exact ‹_ ∧ _›.2

/-- The heads of the first j trees, each ahead of its own. -/
def preF : Fo → Nat → List Hd
  | .nil, _ => []
  | .cons _ _ _, 0 => []
  | .cons h k r, j + 1 => h :: (k.flat.map (·.1) ++ preF r j)
theorem preF_zero (f : Fo) : preF f 0 = [] := by cases f <;> rfl
theorem preF_succ : ∀ {f : Fo} {j : Nat}, j < f.len → preF f (j + 1) = preF f j ++ ((f.get j).1 :: (f.get j).2.flat.map (·.1))
  | .nil, _, h => by simp [Fo.len] at h
  | .cons h k r, 0, _ => by rw [Fo.get_zero]; show h :: (k.flat.map (·.1) ++ preF r 0) = _; rw [preF_zero]; simp [preF]
  | .cons h k r, j + 1, hj => by
    rw [Fo.get_succ]
    show h :: (k.flat.map (·.1) ++ preF r (j + 1)) = h :: (k.flat.map (·.1) ++ preF r j) ++ _
    rw [preF_succ (f := r) (j := j) (by simpa [Fo.len] using hj)]
    simp
theorem preF_all : ∀ (f : Fo), preF f f.len = f.flat.map (·.1)
  | .nil => rfl
  | .cons h k r => by show h :: (k.flat.map (·.1) ++ preF r r.len) = _; rw [preF_all r]; simp [Fo.flat]
theorem preF_le : ∀ (f : Fo) (j : Nat), (preF f j).length ≤ f.size
  | .nil, _ => by simp [preF]
  | .cons _ _ _, 0 => by simp [preF]
  | .cons h k r, j + 1 => by
    have := preF_le r j
    have e : (preF (.cons h k r) (j + 1)).length = 1 + k.flat.length + (preF r j).length := by simp [preF]; omega
    rw [e, Fo.length_flat]; simp only [Fo.size]; omega

/-- What Parts answers. -/
def PartsPost (w : World) (h : Hd) (k : Fo) (e : Ending) (w' : World) : Prop :=
  ∃ v ps, e = .returned v ∧ w'.ownsRow w.heap.size 25 4 v (1 + k.size) (pvCells ps) ∧ ps.map PV.h = h :: k.flat.map (·.1) ∧ Below w.heap.size w w'

/-- What Parts keeps while it goes along the Kids. -/
structure PtI (w : World) (h : Hd) (k : Fo) (q : Option Addr) (L cap j : Nat) (v : Value) (wr : World) : Prop where
  le : j ≤ L
  ps : ∃ ps, wr.ownsRow (w.heap.size + 1) 25 4 v (1 + (preF k j).length) (pvCells ps) ∧ ps.map PV.h = h :: preF k j
  box : wr.heap[w.heap.size]? = some (.cells #[.int .u8 h.op, .string h.name, .int .i64 h.n, .slice q L cap] 25 (0, 0))
  below : Below w.heap.size w wr
  room : w.heap.size + 1 ≤ wr.heap.size

theorem own_grown {w w' : World} {B : Nat} {e : TypeId} {size : Nat} {v : Value} {n : Nat} {xs : List Value} (h : w.ownsRow B e size v n xs) (hb : Below w.heap.size w w') : w'.ownsRow B e size v n xs := by
  refine ⟨h.1, h.2.imp id ?_⟩
  rintro ⟨g, cap, cur, h1, h2, h3, h4⟩
  exact ⟨g, cap, cur, h1, h2, (hb.block g (Array.getElem?_eq_some_iff.1 h3).1).trans h3, h4⟩

theorem PtI.start (w : World) (h : Hd) (k : Fo) (q : Option Addr) (cap : Nat) :
    PtI w h k q k.len cap 0 (.slice (some ⟨w.heap.size + 1, 0, none⟩) 1 1) ((w.alloc (.cells #[.int .u8 h.op, .string h.name, .int .i64 h.n, .slice q k.len cap] 25)).alloc (.cells #[.int .u8 h.op, .string h.name, .int .i64 h.n, .slice q k.len cap] 25)) := by
  refine ⟨Nat.zero_le _, ⟨[⟨h, q, k.len, cap⟩], ?_, by rw [preF_zero]; rfl⟩, ?_, (below_box _ _).alloc (by simp) _, by simp⟩
  · rw [preF_zero]
    refine ⟨rfl, .inr ⟨_, 1, #[.int .u8 h.op, .string h.name, .int .i64 h.n, .slice q k.len cap], rfl, Nat.le_refl _, ?_, Nat.le_refl _, by decide, rfl, rfl⟩⟩
    have := World.alloc_heap_new (w.alloc (.cells #[.int .u8 h.op, .string h.name, .int .i64 h.n, .slice q k.len cap] 25)) (.cells #[.int .u8 h.op, .string h.name, .int .i64 h.n, .slice q k.len cap] 25)
    rwa [World.size_alloc] at this
  · exact ((below_box _ _).block _ (by simp)).trans (World.alloc_heap_new w _)

theorem PtI.go {w : World} {h : Hd} {k : Fo} {q : Option Addr} {L cap j : Nat} {v v' : Value} {wr w1 w2 : World} {ps ps1 : List PV} (hI : PtI w h k q L cap j v wr) (hL : k.len = L) (hj : j < L)
    (hp : ps.map PV.h = h :: preF k j) (hb1 : Below wr.heap.size wr w1) (hp1 : ps1.map PV.h = (k.get j).1 :: (k.get j).2.flat.map (·.1))
    (hv : ∀ r, v.ownBlock = some r → w.heap.size + 1 ≤ r)
    (hown : w2.ownsRow (w.heap.size + 1) 25 4 v' ((1 + (preF k j).length) + (1 + (k.get j).2.size)) (pvCells ps ++ pvCells ps1)) (hg : w1.grownBy w2 v.ownBlock) :
    PtI w h k q L cap (j + 1) v' w2 := by
  have hj' : j < k.len := by omega
  have hlen : (preF k (j + 1)).length = (preF k j).length + (1 + (k.get j).2.size) := by rw [preF_succ hj']; simp [Fo.length_flat]; omega
  have l1 := (Array.getElem?_eq_some_iff.1 hI.box).1
  refine ⟨hj, ⟨ps ++ ps1, ?_, ?_⟩, ?_, ?_, ?_⟩
  · rw [pvCells_append, hlen]
    have : 1 + ((preF k j).length + (1 + (k.get j).2.size)) = (1 + (preF k j).length) + (1 + (k.get j).2.size) := by omega
    rw [this]; exact hown
  · rw [preF_succ hj', List.map_append, hp, hp1]; rfl
  · exact (hg.block _ (Nat.lt_of_lt_of_le l1 hb1.size) (fun e => by have := hv _ e.symm; omega)).trans ((hb1.block _ l1).trans hI.box)
  · exact (hI.below.trans (hb1.mono hI.below.size)).grown hg (Nat.le_trans hI.below.size hb1.size) (fun r e => by have := hv r e; omega)
  · have := hI.room; have := hb1.size; have := hg.size; omega

set_option maxRecDepth 100000 in
set_option maxHeartbeats 2000000 in
theorem Parts_any (m : Nat) : ∀ (h : Hd) (k : Fo) (q : Option Addr) (cap : Nat) (w : World), k.size < m → 1 + k.size ≤ 1099511627776 → SlF w q cap k →
    Calls Try.prog 53 #[.agg #[.int .u8 h.op, .string h.name, .int .i64 h.n, .slice q k.len cap]] w (PartsPost w h k) := by
  induction m with
  | zero => intro h k q cap w hm; omega
  | succ m ih =>
    intro h k q cap w hm hsz hsl
    obtain ⟨i0, hi, hz0, hz1, hz2⟩ := info_parts info25
    have HIH : Hid (∀ j, j < k.len → ∀ (q' : Option Addr) (cap' : Nat) (w' : World), SlF w' q' cap' (k.get j).2 → Calls Try.prog 53 #[.agg #[.int .u8 (k.get j).1.op, .string (k.get j).1.name, .int .i64 (k.get j).1.n, .slice q' (k.get j).2.len cap']] w' (PartsPost w' (k.get j).1 (k.get j).2)) :=
      Lib.hid fun j hj q' cap' w' hs => ih _ _ q' cap' w' (by have := Fo.get_size hj; omega) (by have := Fo.get_size hj; omega) hs
    have HST := Lib.hid (PtI.start w h k q cap)
    have HE : Hid (∀ v w', PtI w h k q k.len cap k.len v w' → PartsPost w h k (.returned v) w') := Lib.hid (fun v w' hI => by
      obtain ⟨ps, h1, h2⟩ := hI.ps
      rw [preF_all] at h1 h2
      rw [List.length_map, Fo.length_flat] at h1
      exact ⟨v, ps, rfl, own_base h1 (by omega), h2, hI.below⟩)
    have hlc := hsl.lc
    have hcm := hsl.cm
    unfold maxLen at hcm
    have HSL := Lib.hid hsl
    have HSZ := Lib.hid hsz
    clear hsl ih hm hsz
    generalize hLd : k.len = L at *
    have HLD := Lib.hid hLd
    clear hLd
    have HOP : Hid (∀ e w', PartsPost w h k e w' = PartsPost w h k e w') := Lib.hid fun _ _ => rfl
    go_enter Try.func53, Try.ntmps53
    go_wp2
    go_loopw [3, 4] (fun v i wr => ∃ j : Nat, i = .int .i64 j ∧ PtI w h k q L cap j v wr) (fun _ i _ => L - (intOf i).toNat)
    case atStart => exact ⟨0, rfl, HST.out⟩
    case round =>
      obtain ⟨j, rfl, hI⟩ := hrel
      obtain ⟨y0, y1, y2, y3, _⟩ := row4 hI.box
      have hjL := hI.le
      obtain ⟨ps, hown, hps⟩ := hI.ps
      have hvb : ∀ r, Value.ownBlock _ = some r → w.heap.size + 1 ≤ r := fun r e => (hown.lt r e).1
      have HI := Lib.hid hI
      have HV := Lib.hid hvb
      have HO := Lib.hid hown
      have HPS := Lib.hid hps
      clear hI hown hps hvb
      by_cases hj : j < L
      · have hjk : j < k.len := by rw [HLD.out]; exact hj
        obtain ⟨b, o, rfl, hfo⟩ := ((HSL.out.below HI.out.below).at_ (Nat.lt_of_le_of_lt (Nat.zero_le _) hjk))
        obtain ⟨q1, cap1, hd1, hs1⟩ := hfo.get j hjk
        have c0 := hd1.c0
        have c1 := hd1.c1
        have c2 := hd1.c2
        have c3 := hd1.c3
        have HC := Lib.hid (HIH.out j hj q1 cap1 _ hs1)
        clear hd1 hfo hs1
        go_wp2_with (first
          | (go_at_call 53; refine HC.out.mono ?_; rintro e w1 ⟨v1, ps1, rfl, own1, hp1, hb1⟩; obtain ⟨g1, cp1, cur1, rfl, hg1, hb1g, hcp1, hcm1, hcl1⟩ := own_some own1 (by omega); have HB1 := Lib.hid hb1; have HP1 := Lib.hid hp1; have HL1 := Lib.hid hcl1; have HO1 := Lib.hid (own_grown HO.out hb1); have HN1 := Lib.hid own1.1; have HS1 := Lib.hid (Nat.le_trans HI.out.room hb1.size); clear hb1 hp1 hcl1 own1 hb1g hg1)
          | (at_builtin; refine wpList_append_own _ rfl _ _ 23 rfl (w.heap.size + 1) 25 i0 (.agg #[.int .u8 0, .string ⟨#[]⟩, .int .i64 0, .slice none 0 0]) 4 56 Try.underlying23 hi hz0 hz1 hz2 rfl (by decide) _ _ _ rfl HO1.out ⟨g1, 0, none⟩ (1 + (k.get j).2.size) cp1 (pvCells ps1) rfl HN1.out ?c1 ?c2 ?c3 ?c4 HS1.out ?_))
        case c1 => intro i u hu; have := HL1.out i u hu; rw [Addr.add_lit]; simpa using this
        case c2 => exact pv_one ps1
        case c3 => have := preF_le k (j + 1); rw [preF_succ hjk] at this; simp [Fo.length_flat] at this; have := HSZ.out; unfold maxLen; omega
        case c4 => have := preF_le k (j + 1); rw [preF_succ hjk] at this; simp [Fo.length_flat] at this; have := HSZ.out; omega
        intro v' w2 hown2 hg2 _
        have HG := Lib.hid (HI.out.go HLD.out hj HPS.out HB1.out HP1.out HV.out hown2 hg2)
        clear hown2 hg2
        go_wp2
        go_roundw
        case rel => exact ⟨j + 1, by go_num, HG.out⟩
        case measure => simp [intOf]; omega
      · have hje : j = L := by omega
        have HJ := Lib.hid hje
        clear hje
        go_wp2
        go_ret
        have hI2 := HI.out
        rw [HJ.out] at hI2
        exact HE.out _ _ hI2

end Go.Proofs.Ytcjhgefkbnbmnaa

namespace Go.Proofs.Ytcjhgefkbnbmnaa
open Go.RowKit LM
set_option linter.unusedVariables false

def badH (a b : Hd) : Bool := decide (a.op = 7) && decide (b.op = 10) && decide (a.n = b.n)
theorem onceB_iff {ps : List PV} {l : List (Hd × Fo)} (h : ps.map PV.h = l.map (·.1)) :
    (onceB l = true ↔ ∀ (i j : Nat) (p p' : PV), ps[i]? = some p → ps[j]? = some p' → badH p.h p'.h = false) := by
  have e : onceB l = (l.map (·.1)).all fun a => (l.map (·.1)).all fun b => !badH a b := by
    simp only [onceB, List.all_map]; rfl
  rw [e, ← h]
  simp only [List.all_map, List.all_eq_true, Function.comp, Bool.not_eq_true']
  constructor
  · intro hh i j p p' h1 h2
    exact hh p (List.mem_of_getElem? h1) p' (List.mem_of_getElem? h2)
  · intro hh p hp p' hp'
    obtain ⟨i, hi⟩ := List.getElem?_of_mem hp
    obtain ⟨j, hj⟩ := List.getElem?_of_mem hp'
    exact hh i j p p' hi hj

theorem bad_next {p p' : PV} {ps : List PV} {j : Nat} (h : ∀ (b : Nat) (p' : PV), b < j → ps[b]? = some p' → badH p.h p'.h = false) (hp : ps[j]? = some p') (hb : badH p.h p'.h = false) :
    ∀ (b : Nat) (p' : PV), b < j + 1 → ps[b]? = some p' → badH p.h p'.h = false := by
  intro b p0 hbj h0
  by_cases e : b = j
  · subst e
    have e0 : p0 = p' := Option.some.inj (h0.symm.trans hp)
    subst e0; exact hb
  · exact h b p0 (by omega) h0

theorem below_drewN {B : Nat} {a w : World} (h : Below B a w) (n : Nat) : Below B a (w.drewN n) := ⟨h.os, h.tape, h.output, h.size, h.block⟩
/-- What once keeps. -/
structure OnI (w : World) (g : Nat) (ps : List PV) (wr : World) : Prop where
  cells : ∀ j u, (pvCells ps)[j]? = some u → wr.cell? ⟨g, 0 + j, none⟩ = some u
  below : Below w.heap.size w wr
theorem OnI.at_ {w wr : World} {g : Nat} {ps : List PV} (h : OnI w g ps wr) {i : Nat} {p : PV} (hp : ps[i]? = some p) :
    wr.cell? ⟨g, i * 4, none⟩ = some (.int .u8 p.h.op) ∧ wr.cell? ⟨g, i * 4 + 2, none⟩ = some (.int .i64 p.h.n) := by
  obtain ⟨h1, h2⟩ := pvCells_get ps i p hp
  have a := h.cells _ _ h1
  have b := h.cells _ _ h2
  rw [Nat.zero_add] at a b
  exact ⟨a, b⟩
theorem OnI.drewN {w wr : World} {g : Nat} {ps : List PV} (h : OnI w g ps wr) (n : Nat) : OnI w g ps (wr.drewN n) := ⟨h.cells, below_drewN h.below n⟩

set_option maxRecDepth 100000 in
set_option maxHeartbeats 2000000 in
theorem once_any (h : Hd) (k : Fo) (q : Option Addr) (cap : Nat) (w : World) (hsz : 1 + k.size ≤ 1099511627776) (hsl : SlF w q cap k) :
    Calls Try.prog 60 #[.agg #[.int .u8 h.op, .string h.name, .int .i64 h.n, .slice q k.len cap]] w fun e w' => e = .returned (.bool (onceB ((h, k) :: k.flat))) ∧ Below w.heap.size w w' := by
  have HP := Lib.hid (Parts_any (k.size + 1) h k q cap (w.alloc (.cells #[.int .u8 h.op, .string h.name, .int .i64 h.n, .slice q k.len cap] 25)) (by omega) hsz (hsl.below (below_box _ _)))
  have HY := Lib.hid fun (ps : List PV) (hps : ps.map PV.h = h :: k.flat.map (·.1)) => onceB_iff (ps := ps) (l := (h, k) :: k.flat) hps
  have HN : Hid (∀ ps : List PV, ps.map PV.h = h :: k.flat.map (·.1) → ps.length = 1 + k.size) := Lib.hid fun ps hps => by
    have := congrArg List.length hps
    simp [Fo.length_flat] at this; omega
  clear hsl
  generalize onceB ((h, k) :: k.flat) = r at *
  generalize hN : 1 + k.size = N at *
  have HNN := Lib.hid hN
  clear hN
  go_enter Try.func60, Try.ntmps60
  go_wp2_with (go_at_call 53; refine HP.out.mono ?_; rintro e w1 ⟨v1, ps, rfl, own1, hps, hb1⟩; have hN2 : 1 + k.size = N := HNN.out; rw [hN2] at own1; obtain ⟨g, cp, cur, rfl, hg, hb1g, hcp, hcm, hcl⟩ := own_some own1 (by omega); have HON := Lib.hid (OnI.mk (w := w) hcl (below_then (below_box _ _) hb1)); have HR := Lib.hid (HY.out ps hps); have HL := Lib.hid (HN.out ps hps); clear hb1 hcl own1 hb1g hg hps hN2)
  go_loopw [4] (fun iv wr => ∃ i : Nat, iv = .int .i64 i ∧ i ≤ N ∧ (∀ (a b : Nat) (p p' : PV), a < i → ps[a]? = some p → ps[b]? = some p' → badH p.h p'.h = false) ∧ OnI w g ps wr) (fun iv _ => N - (intOf iv).toNat)
  case atStart => exact ⟨0, rfl, Nat.zero_le _, (fun a b p p' ha => by omega), HON.out⟩
  case round =>
    obtain ⟨i, rfl, hi, hal, hI⟩ := hrel
    have HI := Lib.hid hI
    have HAL := Lib.hid hal
    clear hI hal
    by_cases hiN : i < N
    · obtain ⟨p, hp⟩ : ∃ p, ps[i]? = some p := ⟨_, List.getElem?_eq_getElem (by rw [HL.out]; exact hiN)⟩
      have HP1 := Lib.hid hp
      clear hp
      go_wp2
      go_loopw [5] (fun jv wr => ∃ j : Nat, jv = .int .i64 j ∧ j ≤ N ∧ (∀ (b : Nat) (p' : PV), b < j → ps[b]? = some p' → badH p.h p'.h = false) ∧ OnI w g ps wr) (fun jv _ => N - (intOf jv).toNat)
      case atStart => exact ⟨0, rfl, Nat.zero_le _, (fun b p' hb => by omega), HI.out⟩
      case round =>
        obtain ⟨j, rfl, hj, hbl, hJ⟩ := hrel
        have HJ := Lib.hid hJ
        have HBL := Lib.hid hbl
        clear hJ hbl
        by_cases hjN : j < N
        · obtain ⟨p', hp'⟩ : ∃ p, ps[j]? = some p := ⟨_, List.getElem?_eq_getElem (by rw [HL.out]; exact hjN)⟩
          obtain ⟨c1, c2⟩ := HJ.out.at_ HP1.out
          obtain ⟨d1, d2⟩ := HJ.out.at_ hp'
          have HP2 := Lib.hid hp'
          have HB : Hid (badH p.h p'.h = (decide (p.h.op = 7) && decide (p'.h.op = 10) && decide (p.h.n = p'.h.n))) := Lib.hid rfl
          clear hp'
          go_wp2
          generalize p.h.op = o1 at *
          generalize p'.h.op = o2 at *
          generalize p.h.n = n1 at *
          generalize p'.h.n = n2 at *
          have i0 : (0 : Int) ≤ i := by omega
          have i1 : (i : Int) < N := by omega
          have j0 : (0 : Int) ≤ j := by omega
          have j1 : (j : Int) < N := by omega
          by_cases h1 : o1 = 7
          · have t1 : (o1 == 7) = true := by simpa using h1
            by_cases h2 : o2 = 10
            · have t2 : (o2 == 10) = true := by simpa using h2
              by_cases h3 : n1 = n2
              · have t3 : (n1 == n2) = true := by simpa using h3
                go_quiet (fail)
                clear i0 i1 j0 j1
                go_wp2
                go_ret
                refine ⟨ret_bool (Eq.symm ?_), below_drewN HJ.out.below _⟩
                rw [Bool.eq_false_iff]
                intro hr
                have := HR.out.1 hr i j p p' HP1.out HP2.out
                rw [HB.out] at this
                simp [h1, h2, h3] at this
              · have t3 : (n1 == n2) = false := by simpa using h3
                go_quiet (fail)
                clear i0 i1 j0 j1
                go_wp2
                go_roundw
                case rel => exact ⟨j + 1, by go_num, hjN, (fun b p0 hb h0 => bad_next HBL.out HP2.out (by rw [HB.out]; simp [h3]) b p0 hb h0), HJ.out.drewN _⟩
                case measure => simp [intOf]; omega
            · have t2 : (o2 == 10) = false := by simpa using h2
              go_quiet (fail)
              clear i0 i1 j0 j1
              go_wp2
              go_roundw
              case rel => exact ⟨j + 1, by go_num, hjN, (fun b p0 hb h0 => bad_next HBL.out HP2.out (by rw [HB.out]; simp [h2]) b p0 hb h0), HJ.out.drewN _⟩
              case measure => simp [intOf]; omega
          · have t1 : (o1 == 7) = false := by simpa using h1
            go_quiet (fail)
            clear i0 i1 j0 j1
            go_wp2
            go_roundw
            case rel => exact ⟨j + 1, by go_num, hjN, (fun b p0 hb h0 => bad_next HBL.out HP2.out (by rw [HB.out]; simp [h1]) b p0 hb h0), HJ.out.drewN _⟩
            case measure => simp [intOf]; omega
        · have hje : j = N := by omega
          have HJE := Lib.hid hje
          clear hje
          go_wp2
          go_roundw
          case rel =>
            refine ⟨i + 1, by go_num, hiN, ?_, HJ.out⟩
            intro a b p0 p' ha h0 h'
            by_cases hai : a = i
            · subst hai
              have e0 : p0 = p := Option.some.inj (h0.symm.trans HP1.out)
              subst e0
              have hb : b < j := by rw [HJE.out, ← HL.out]; exact (List.getElem?_eq_some_iff.1 h').1
              exact HBL.out b p' hb h'
            · exact HAL.out a b p0 p' (by omega) h0 h'
          case measure => simp [intOf]; omega
    · have hie : i = N := by omega
      have HIE := Lib.hid hie
      clear hie
      go_wp2
      go_ret
      refine ⟨ret_bool (Eq.symm (HR.out.2 ?_)), HI.out.below⟩
      intro a b p0 p' h0 h'
      exact HAL.out a b p0 p' (by rw [HIE.out, ← HL.out]; exact (List.getElem?_eq_some_iff.1 h0).1) h0 h'

end Go.Proofs.Ytcjhgefkbnbmnaa

namespace Go.Proofs.Ytcjhgefkbnbmnaa
open Go.RowKit LM
set_option linter.unusedVariables false

/-- What Field answers. -/
def FieldPost (w : World) (name : ByteArray) (h0 : Hd) (k0 : Fo) (h1 : Hd) (k1 : Fo) (e : Ending) (w' : World) : Prop :=
  ∃ g, e = .returned (.agg #[.int .u8 11, .string name, .int .i64 0, .slice (some ⟨g, 0, none⟩) 2 2]) ∧ SlF w' (some ⟨g, 0, none⟩) 2 (.cons h0 k0 (.cons h1 k1 .nil)) ∧ Below w.heap.size w w'

theorem two_fo {w : World} {g : Nat} {h0 h1 : Hd} {k0 k1 : Fo} {q0 q1 : Option Addr} {cap0 cap1 : Nat}
    (hg : w.heap[g]? = some (.cells #[.int .u8 h0.op, .string h0.name, .int .i64 h0.n, .slice q0 k0.len cap0, .int .u8 h1.op, .string h1.name, .int .i64 h1.n, .slice q1 k1.len cap1] 25 (0, 0))) (s0 : SlF w q0 cap0 k0) (s1 : SlF w q1 cap1 k1) :
    SlF w (some ⟨g, 0, none⟩) 2 (.cons h0 k0 (.cons h1 k1 .nil)) := by
  refine ⟨Nat.le_refl _, by unfold maxLen; omega, fun _ => ⟨g, 0, rfl, q0, cap0, ⟨?_, ?_, ?_, ?_, s0.lc, s0.cm⟩, s0.at_, q1, cap1, ⟨?_, ?_, ?_, ?_, s1.lc, s1.cm⟩, s1.at_, trivial⟩⟩ <;> simp [World.cell?, hg]

/-! ### The chapter's example -/
def exE : Hd := ⟨8, ⟨#[]⟩, 0⟩
def exI : Hd := ⟨1, ⟨#[]⟩, 0⟩
def exO : Hd := ⟨2, ⟨#[]⟩, 0⟩
def exA : Hd := ⟨11, ⟨#[97]⟩, 0⟩
def exB : Hd := ⟨11, ⟨#[98]⟩, 0⟩
def exKA : Fo := .cons exO .nil (.cons exE .nil .nil)
def exKB : Fo := .cons exI .nil (.cons exA exKA .nil)

theorem slF_nil (w : World) : SlF w none 0 .nil := ⟨Nat.le_refl _, by unfold maxLen; omega, fun h => by simp [Fo.len] at h⟩
/-- Block b is a row of types that holds cs. -/
def RowIs (w : World) (b : Nat) (cs : Array Value) : Prop := w.heap[b]? = some (.cells cs 25 (0, 0))
abbrev csE : Array Value := #[.int .u8 8, .string ⟨#[]⟩, .int .i64 0, .slice none 0 0]
abbrev csZ : Array Value := #[.int .u8 0, .string ⟨#[]⟩, .int .i64 0, .slice none 0 0]
abbrev csA : Array Value := #[.int .u8 2, .string ⟨#[]⟩, .int .i64 0, .slice none 0 0, .int .u8 8, .string ⟨#[]⟩, .int .i64 0, .slice none 0 0]
abbrev csB (g : Nat) : Array Value := #[.int .u8 1, .string ⟨#[]⟩, .int .i64 0, .slice none 0 0, .int .u8 11, .string ⟨#[97]⟩, .int .i64 0, .slice (some ⟨g, 0, none⟩) 2 2]

/-- What Field makes of two types, cell by cell. -/
def FieldRow (w : World) (name : ByteArray) (a0 a1 a2 a3 b0 b1 b2 b3 : Value) (e : Ending) (w' : World) : Prop :=
  ∃ g, e = .returned (.agg #[.int .u8 11, .string name, .int .i64 0, .slice (some ⟨g, 0, none⟩) 2 2]) ∧ w.heap.size ≤ g ∧ RowIs w' g #[a0, a1, a2, a3, b0, b1, b2, b3] ∧ Below w.heap.size w w'
/-- Behind the example's row. -/
structure AliveW (w : World) (B g g2 : Nat) (w' : World) : Prop where
  rB : RowIs w' B #[.int .u8 11, .string ⟨#[98]⟩, .int .i64 0, .slice (some ⟨g2, 0, none⟩) 2 2]
  r2 : RowIs w' g2 (csB g)
  r1 : RowIs w' g csA
  rE : RowIs w' w.heap.size csE
  below : Below w.heap.size w w'
def AliveMid (w : World) : Exit → Act → World → Prop := fun e a w' => e = .normal ∧ ∃ B g g2, a = { tmps := #[.bool false, .pointer (some ⟨w.heap.size, 0, none⟩), .pointer (some ⟨B, 0, none⟩), undef, undef, .agg csE, .agg #[.int .u8 1, .string ⟨#[]⟩, .int .i64 0, .slice none 0 0], .agg #[.int .u8 2, .string ⟨#[]⟩, .int .i64 0, .slice none 0 0], .agg csE, .agg #[.int .u8 11, .string ⟨#[97]⟩, .int .i64 0, .slice (some ⟨g, 0, none⟩) 2 2], .agg #[.int .u8 11, .string ⟨#[98]⟩, .int .i64 0, .slice (some ⟨g2, 0, none⟩) 2 2], undef, undef, undef, undef, undef, undef, undef, undef, undef, undef, undef, undef, undef, undef, undef, undef, undef, undef, undef, undef, undef, undef, undef, undef, undef, undef, undef, undef, undef, undef, undef, undef, undef, undef, undef], defers := [] } ∧ AliveW w B g g2 w'
theorem below_al {w W : World} (h : Below w.heap.size w W) (o : Obj) : Below w.heap.size w (W.alloc o) := h.alloc h.size o
theorem hd_ok {o : Int} {nm : ByteArray} (h0 : 0 ≤ o) (h1 : o ≤ 255) (h2 : nm.size ≤ 5) : Hd.ok ⟨o, nm, 0⟩ := ⟨h0, h1, by unfold maxLen; show nm.size ≤ _; omega, by show (-9223372036854775808 : Int) ≤ 0; omega, by show (0 : Int) ≤ _; omega⟩
end Go.Proofs.Ytcjhgefkbnbmnaa

namespace Go.Proofs.Ytcjhgefkbnbmnaa
open Go.RowKit Go.Shelf LM
set_option linter.unusedVariables false

/-- Where the Kids of the part at (b, o) lie. -/
def kidAt (w : World) (b o : Nat) : Pl := match w.cell? ⟨b, o + 3, none⟩ with | some (.slice (some a) _ _) => (a.block, a.off) | _ => (0, 0)
/-- All parts with their places. -/
def allF (w : World) : Fo → Nat → Nat → List (Pl × (Hd × Fo))
  | .nil, _, _ => []
  | .cons h k r, b, o => ((b, o), (h, k)) :: (allF w k (kidAt w b o).1 (kidAt w b o).2 ++ allF w r b (o + 4))
/-- What is still to come of them. -/
def allL (w : World) : List Pl → List (Hd × Fo) → List (Pl × (Hd × Fo))
  | p :: st, t :: ts => (p, t) :: (allF w t.2 (kidAt w p.1 p.2).1 (kidAt w p.1 p.2).2 ++ allL w st ts)
  | _, _ => []
def qPost (n₀ : Nat) (w1 : World) (A : List (Pl × (Hd × Fo)) → (Nat → Prop) → World → Prop) (pre : List (Pl × (Hd × Fo))) (D : Nat → Prop) (W : World) : Exit → Act → World → Prop
  | .normal, _, W' => ∃ D', Tch n₀ D D' W W' ∧ Below w1.heap.size W W' ∧ A pre D' W'
  | _, _, _ => False

variable {F : Fence} {n : Nat}

/-! ### Parts that are still to be put -/
/-- A part that is to be put: whatever is there now. -/
def PendV : PendT := fun w b o _ _ _ => ∃ h q len cap, HdAt w b o h q len cap
/-- The places of the parts of this Op and number. -/
def sel (op n : Int) (l : List (Pl × (Hd × Fo))) : List Pl := (l.filter fun x => decide (x.2.1.op = op) && decide (x.2.1.n = n)).map (·.1)
end Go.Proofs.Ytcjhgefkbnbmnaa

namespace Go.Proofs.Ytcjhgefkbnbmnaa
open Go.RowKit LM
set_option linter.unusedVariables false

/-- A tree comes back. -/
def TrPost (w : World) (h : Hd) (k : Fo) (e : Ending) (w' : World) : Prop :=
  ∃ q cap, e = .returned (.agg #[.int .u8 h.op, .string h.name, .int .i64 h.n, .slice q k.len cap]) ∧ SlF w' q cap k ∧ Below w.heap.size w w'

end Go.Proofs.Ytcjhgefkbnbmnaa

namespace Go.Proofs.Ytcjhgefkbnbmnaa
open Go.RowKit LM
set_option linter.unusedVariables false

namespace Fo
def app : Fo → Fo → Fo
  | nil, g => g
  | cons h k r, g => cons h k (r.app g)
def take : Fo → Nat → Fo
  | nil, _ => nil
  | cons _ _ _, 0 => nil
  | cons h k r, j + 1 => cons h k (r.take j)
/-- In the place of each part of this Op and number, that tree. -/
def putF (op n : Int) (H : Hd) (K : Fo) : Fo → Fo
  | nil => nil
  | cons h k r => if h.op = op ∧ h.n = n then cons H K (putF op n H K r) else cons h (putF op n H K k) (putF op n H K r)
end Fo
theorem Fo.len_put (op n : Int) (H : Hd) (K : Fo) : ∀ f : Fo, (Fo.putF op n H K f).len = f.len
  | .nil => rfl
  | .cons h k r => by
    unfold Fo.putF
    split <;> simp only [Fo.len] <;> rw [Fo.len_put op n H K r]
theorem Fo.take_succ : ∀ {f : Fo} {j : Nat}, j < f.len → f.take (j + 1) = (f.take j).app (.cons (f.get j).1 (f.get j).2 .nil)
  | .nil, _, h => by simp [Fo.len] at h
  | .cons h k r, 0, _ => by rw [Fo.get_zero]; cases r <;> rfl
  | .cons h k r, j + 1, hj => by
    rw [Fo.get_succ]
    show Fo.cons h k (r.take (j + 1)) = Fo.cons h k ((r.take j).app _)
    rw [Fo.take_succ (f := r) (j := j) (by simpa [Fo.len] using hj)]
theorem Fo.take_zero (f : Fo) : f.take 0 = .nil := by cases f <;> rfl
theorem Fo.take_all : ∀ f : Fo, f.take f.len = f
  | .nil => rfl
  | .cons h k r => by show Fo.cons h k (r.take r.len) = _; rw [Fo.take_all r]
theorem CellsOf.app {w : World} : ∀ {f g : Fo} {cs ds : List Value}, CellsOf w f cs → CellsOf w g ds → CellsOf w (f.app g) (cs ++ ds)
  | .nil, g, cs, ds, h, h2 => by have : cs = [] := h; subst this; exact h2
  | .cons h k r, g, cs, ds, ⟨q, cap, cs', e, hs, hr⟩, h2 => ⟨q, cap, cs' ++ ds, by rw [e]; rfl, hs, CellsOf.app hr h2⟩
theorem CellsOf.fo {w : World} : ∀ {f : Fo} {cs : List Value} {b o : Nat}, CellsOf w f cs → (∀ j u, cs[j]? = some u → w.cell? ⟨b, o + j, none⟩ = some u) → FoAt w f b o
  | .nil, _, _, _, _, _ => trivial
  | .cons h k r, cs, b, o, ⟨q, cap, cs', e, hs, hr⟩, hc => by
    subst e
    refine ⟨q, cap, ⟨hc 0 _ rfl, hc 1 _ rfl, hc 2 _ rfl, hc 3 _ rfl, hs.lc, hs.cm⟩, hs.at_, CellsOf.fo hr fun j u hj => ?_⟩
    have := hc (j + 4) u (by simpa using hj)
    rw [show o + (j + 4) = o + 4 + j by omega] at this
    exact this

/-- A tree in which that tree has been put. -/
def putT (op n : Int) (H : Hd) (K : Fo) (h : Hd) (k : Fo) : Hd × Fo := if h.op = op ∧ h.n = n then (H, K) else (h, Fo.putF op n H K k)
/-- What the document's Put answers: a tree of new memory and of what was put. -/
def RpPost (w : World) (Q : Option Addr) (C : Nat) (K : Fo) (h' : Hd) (k' : Fo) (e : Ending) (w' : World) : Prop :=
  ∃ q' cap', e = .returned (.agg #[.int .u8 h'.op, .string h'.name, .int .i64 h'.n, .slice q' k'.len cap']) ∧
    (∀ w'' : World, (∀ b, w.heap.size ≤ b → b < w'.heap.size → w''.heap[b]? = w'.heap[b]?) → SlF w'' Q C K → SlF w'' q' cap' k') ∧ Below w.heap.size w w'

/-- What it keeps while it goes along the Kids. -/
structure RpI (w : World) (h : Hd) (k : Fo) (q : Option Addr) (L cap : Nat) (op n : Int) (H : Hd) (K : Fo) (Q : Option Addr) (LK C : Nat) (j : Nat) (v : Value) (wr : World) : Prop where
  le : j ≤ L
  own : ∃ cs, wr.ownsRow (w.heap.size + 4) 25 4 v j cs ∧ ∀ w'' : World, (∀ b, w.heap.size + 4 ≤ b → b < wr.heap.size → v.ownBlock ≠ some b → w''.heap[b]? = wr.heap[b]?) → SlF w'' Q C K → CellsOf w'' (Fo.putF op n H K (k.take j)) cs
  b4 : wr.heap[w.heap.size]? = some (.cells #[.int .u8 h.op, .string h.name, .int .i64 h.n, .slice q L cap] 25 (0, 0))
  b7 : wr.heap[w.heap.size + 1]? = some (.cells #[.int .u8 H.op, .string H.name, .int .i64 H.n, .slice Q LK C] 25 (0, 0))
  b8 : wr.heap[w.heap.size + 2]? = some (.cells #[.int .u8 0, .string ⟨#[]⟩, .int .i64 0, .slice none 0 0] 25 (0, 0))
  b9 : wr.heap[w.heap.size + 3]? = some (.cells #[.int .u8 h.op, .string h.name, .int .i64 h.n, v] 25 (0, 0))
  below : Below w.heap.size w wr
  room : w.heap.size + 4 ≤ wr.heap.size

theorem step_append_at {P : Program} {ops : Array Oper} {o : Oper} {a : Act} {w : World} {K : Act → World → Prop} {Q : Exit → Act → World → Prop} {E : Prop}
    (hg : o.guard = none) (s x : Operand) (t : TypeId) (hop : o.op = Op.call { callee := Callee.builtin Builtin.append, args := #[s, x], argTypes := #[t, t] })
    (base : Nat) (e : TypeId) (i : TypeInfo) (z : Value) (size bytes : Nat) (h1 : P.underlying t = some (.slice e)) (h2 : P.info? e = some i) (h3 : i.zero = some z) (h4 : i.size = size) (h5 : i.bytes = bytes) (h6 : z.cells.size = size) (h7 : 0 < size)
    (v : Value) (n : Nat) (xs : List Value) (hs : a.eval s = v) (hown : w.ownsRow base e size v n xs)
    (ad : Addr) (m c : Nat) (news : List Value) (hx : a.eval x = .slice (some ad) m c) (hn : news.length = m * size) (hc : ∀ j u, news[j]? = some u → w.cell? (ad.add j) = some u) (h1c : ∀ u ∈ news, u.oneCell' = true)
    (b1 : n + m ≤ maxLen) (b2 : (n + m) * bytes ≤ 140737488355328) (hb : base ≤ w.heap.size)
    (hK : ∀ v' w', w'.ownsRow base e size v' (n + m) (xs ++ news) → w.grownBy w' v.ownBlock → (v'.ownBlock = v.ownBlock ∨ v'.ownBlock = some w.heap.size) → K (a.put o.dst v') w') :
    if Region.wanted o (yielded ops a.tmps) = true then Oper.wp P o a w K Q else E := by
  have hw : Region.wanted o (yielded ops a.tmps) = true := by simp [Region.wanted, hg]
  rw [if_pos hw]
  obtain ⟨v', w', hrun, r1, r2, _, r4⟩ := run_append_own_at (P := P) w base t o.type e i z size bytes h1 h2 h3 h4 h5 h6 h7 v n xs hown ad m c news hn hc h1c b1 b2 hb
  unfold Oper.wp
  simp [execOp, hop, resolve, invoke, builtin, hs, hx, hrun, Result.andThen]
  exact hK v' w' r1 r2 r4
theorem kid_one (a : Int) (b : ByteArray) (c : Int) (q : Option Addr) (l m : Nat) : ∀ u ∈ [Value.int .u8 a, .string b, .int .i64 c, .slice q l m], u.oneCell' = true := by
  intro u hu; simp at hu; rcases hu with rfl | rfl | rfl | rfl <;> rfl
theorem kid_bd {j L : Nat} (h : j < L) (h2 : L ≤ 1099511627776) : j + 1 ≤ maxLen := by unfold maxLen; omega
theorem kid_bd2 {j L : Nat} (h : j < L) (h2 : L ≤ 1099511627776) : (j + 1) * 56 ≤ 140737488355328 := by omega
theorem kid_bd3 {w1 : World} {o : Obj} {B : Nat} (h : B ≤ w1.heap.size) : B ≤ (w1.alloc o).heap.size := by simp; omega
theorem setCell_grown (W : World) (b i : Nat) (v : Value) : W.grownBy (W.setCell ⟨b, i, none⟩ v) (some b) :=
  ⟨rfl, rfl, rfl, by simp, fun k _ hk => Below.heap_setCell _ _ _ k (fun e => hk (by rw [e]))⟩
end Go.Proofs.Ytcjhgefkbnbmnaa

namespace Go.Proofs.Ytcjhgefkbnbmnaa
open Go.RowKit Go.Shelf LM
set_option linter.unusedVariables false

/-- Right as a type or as a row. -/
def riB (h : Hd) (k : Fo) : Bool := rightB h k 1 || rightB h k 2
/-- A part is overwritten. -/
def World.setTy (W : World) (p : Pl) (v0 v1 v2 v3 : Value) : World := (((W.setCell ⟨p.1, p.2, none⟩ v0).setCell ⟨p.1, p.2 + 1, none⟩ v1).setCell ⟨p.1, p.2 + 2, none⟩ v2).setCell ⟨p.1, p.2 + 3, none⟩ v3
/-- While the places are gone through: those from the i-th on are still to be put. Wm: the world in which this began; F0: the blocks of the tree then. -/
structure PutI (Wm : World) (B0 : Nat) (F0 : List Nat) (f : Fo) (H : Hd) (K : Fo) (pl : List Pl) (i : Nat) (W : World) : Prop where
  pt : ∃ F, PT PendV W f B0 0 (pl.drop i) (List.replicate (pl.length - i) (H, K)) F ∧ (B0 :: F).Nodup ∧ ∀ c ∈ F, (c ∈ F0 ∨ Wm.heap.size ≤ c) ∧ c < W.heap.size
  row : RowB W B0
  same : ∀ b, b < Wm.heap.size → b ≠ B0 → b ∉ F0 → W.heap[b]? = Wm.heap[b]?
  low : Below 0 Wm W

end Go.Proofs.Ytcjhgefkbnbmnaa

namespace Go.Proofs.Ytcjhgefkbnbmnaa
open Go.RowKit Go.Shelf LM
set_option linter.unusedVariables false
attribute [local go_sem] Oper.semAt_some

/-- The boxes of Put's parameters and of its result. -/
structure PutB (w : World) (h : Hd) (k : Fo) (q : Option Addr) (cap : Nat) (n : Int) (H : Hd) (K : Fo) (Q : Option Addr) (C : Nat) (W : World) : Prop where
  b0 : W.heap[w.heap.size]? = some (.cells #[.int .u8 h.op, .string h.name, .int .i64 h.n, .slice q k.len cap] 25 (0, 0))
  b1 : Boxed W (w.heap.size + 1) 3 (.int .i64 n)
  b2 : W.heap[w.heap.size + 1 + 1]? = some (.cells #[.int .u8 H.op, .string H.name, .int .i64 H.n, .slice Q K.len C] 25 (0, 0))
  b3 : W.heap[w.heap.size + 1 + 1 + 1]? = some (.cells #[.int .u8 0, .string ⟨#[]⟩, .int .i64 0, .slice none 0 0] 25 (0, 0))
  below : Below w.heap.size w W
  room : w.heap.size + 4 ≤ W.heap.size
theorem PutB.start (w : World) (h : Hd) (k : Fo) (q : Option Addr) (cap : Nat) (n : Int) (H : Hd) (K : Fo) (Q : Option Addr) (C : Nat) :
    PutB w h k q cap n H K Q C ((((w.alloc (.cells #[.int .u8 h.op, .string h.name, .int .i64 h.n, .slice q k.len cap] 25)).alloc (.cells #[.int .i64 n] 3)).alloc (.cells #[.int .u8 H.op, .string H.name, .int .i64 H.n, .slice Q K.len C] 25)).alloc (.cells #[.int .u8 0, .string ⟨#[]⟩, .int .i64 0, .slice none 0 0] 25)) := by
  have e1 := World.alloc_heap_new w (.cells #[.int .u8 h.op, .string h.name, .int .i64 h.n, .slice q k.len cap] 25)
  have e2 := World.alloc_heap_new (w.alloc (.cells #[.int .u8 h.op, .string h.name, .int .i64 h.n, .slice q k.len cap] 25)) (.cells #[.int .i64 n] 3)
  have e3 := World.alloc_heap_new ((w.alloc (.cells #[.int .u8 h.op, .string h.name, .int .i64 h.n, .slice q k.len cap] 25)).alloc (.cells #[.int .i64 n] 3)) (.cells #[.int .u8 H.op, .string H.name, .int .i64 H.n, .slice Q K.len C] 25)
  have e4 := World.alloc_heap_new (((w.alloc (.cells #[.int .u8 h.op, .string h.name, .int .i64 h.n, .slice q k.len cap] 25)).alloc (.cells #[.int .i64 n] 3)).alloc (.cells #[.int .u8 H.op, .string H.name, .int .i64 H.n, .slice Q K.len C] 25)) (.cells #[.int .u8 0, .string ⟨#[]⟩, .int .i64 0, .slice none 0 0] 25)
  simp only [World.size_alloc] at e2 e3 e4
  refine ⟨?_, ?_, ?_, e4, (((below_box _ _).alloc (by simp) _).alloc (by simp; omega) _).alloc (by simp; omega) _, by simp⟩
  · exact ((below_box _ _).block _ (by simp; omega)).trans (((below_box _ _).block _ (by simp; omega)).trans (((below_box _ _).block _ (by simp)).trans e1))
  · exact ((below_box _ _).block _ (by simp)).trans (((below_box _ _).block _ (by simp)).trans e2)
  · exact ((below_box _ _).block _ (by simp)).trans e3
theorem PutB.go {w : World} {h : Hd} {k : Fo} {q : Option Addr} {cap : Nat} {n : Int} {H : Hd} {K : Fo} {Q : Option Addr} {C : Nat} {W W' : World} (hp : PutB w h k q cap n H K Q C W) (hb : Below W.heap.size W W') : PutB w h k q cap n H K Q C W' := by
  have hr := hp.room
  exact ⟨(hb.block _ (by omega)).trans hp.b0, (hb.block _ (by omega)).trans hp.b1, (hb.block _ (by omega)).trans hp.b2, (hb.block _ (by omega)).trans hp.b3, hp.below.trans (hb.mono (by omega)), by have := hb.size; omega⟩

end Go.Proofs.Ytcjhgefkbnbmnaa

namespace Go.Proofs.Ytcjhgefkbnbmnaa
open Go.RowKit Go.Shelf LM
set_option linter.unusedVariables false
attribute [local go_sem] Oper.semAt_some

/-- The world between: the tree copied, both found right, the Op of what is sought laid. -/
structure PutM (w : World) (h : Hd) (k : Fo) (q : Option Addr) (cap : Nat) (n : Int) (H : Hd) (K : Fo) (Q : Option Addr) (C : Nat) (op : Int) (B0 : Nat) (q1 : Option Addr) (c1 : Nat) (F1 : List Nat) (W : World) : Prop where
  b : PutB w h k q cap n H K Q C W
  o : W.heap[B0]? = some (.cells #[.int .u8 h.op, .string h.name, .int .i64 h.n, .slice q1 k.len c1] 25 (0, 0))
  own : OwnF W q1 k F1
  nd : (B0 :: F1).Nodup
  big : ∀ c ∈ B0 :: F1, w.heap.size + 4 ≤ c ∧ c < W.heap.size
  l : k.len ≤ c1
  m : c1 ≤ maxLen
/-- What is kept while the places are gathered. -/
def PlA (op n : Int) (Bo Bp base : Nat) (pre : List (Pl × (Hd × Fo))) (D : Nat → Prop) (W : World) : Prop :=
  ∃ v, Boxed W Bp 69 v ∧ W.ownsRow base 64 1 v (sel op n pre).length ((sel op n pre).map Pl.ptr) ∧ Boxed W Bo 22 (.int .u8 op) ∧ ∀ g, v.ownBlock = some g → D g
theorem own_value {w : World} {base : Nat} {e : TypeId} {size : Nat} {v : Value} {n : Nat} {xs : List Value} (h : w.ownsRow base e size v n xs) : ∃ a cap, v = .slice a n cap := by
  rcases h.2 with ⟨rfl, h0⟩ | ⟨g, cap, cur, rfl, _⟩
  · exact ⟨none, 0, by rw [h0]⟩
  · exact ⟨_, cap, rfl⟩
end Go.Proofs.Ytcjhgefkbnbmnaa

namespace Go.Proofs.Ytcjhgefkbnbmnaa
open Go.RowKit LM
set_option linter.unusedVariables false

theorem fldCells_get (l : List Fld) : ∀ (i c : Nat), c < 5 → (fldCells l)[i * 5 + c]? = l[i]?.bind fun f => f.enc[c]? := by
  induction l with
  | nil => intro i c hc; simp [fldCells]
  | cons f l ih =>
    intro i c hc
    have hl : f.enc.length = 5 := rfl
    simp only [fldCells, List.flatMap_cons] at ih ⊢
    cases i with
    | zero => rw [List.getElem?_append_left (by rw [hl]; omega)]; simp
    | succ i =>
      rw [List.getElem?_append_right (by rw [hl]; omega), hl, show (i + 1) * 5 + c - 5 = i * 5 + c by omega, ih i c hc]
      simp
/-- A field is laid at o. -/
def World.set5 (W : World) (g o : Nat) (f : Fld) : World :=
  ((((W.setCell ⟨g, o, none⟩ (.string f.name)).setCell ⟨g, o + 1, none⟩ (.int .u8 f.h.op)).setCell ⟨g, o + 2, none⟩ (.string f.h.name)).setCell ⟨g, o + 3, none⟩ (.int .i64 f.h.n)).setCell ⟨g, o + 4, none⟩ (.slice f.q f.k.len f.cap)
theorem grown_again {A B C : World} {r : Nat} (a : A.grownBy B (some r)) (b : B.grownBy C (some r)) : A.grownBy C (some r) :=
  ⟨b.os.trans a.os, b.tape.trans a.tape, b.output.trans a.output, Nat.le_trans a.size b.size, fun k hk hne => (b.block k (Nat.lt_of_lt_of_le hk a.size) hne).trans (a.block k hk hne)⟩
theorem grown_set (W : World) (b i : Nat) (v : Value) : W.grownBy (W.setCell ⟨b, i, none⟩ v) (some b) :=
  ⟨rfl, rfl, rfl, by simp, fun k _ hk => Below.heap_setCell _ _ _ k (fun e => hk (by rw [e]))⟩
theorem set5_grown (W : World) (g o : Nat) (f : Fld) : W.grownBy (World.set5 W g o f) (some g) := by
  unfold World.set5
  exact grown_again (grown_again (grown_again (grown_again (grown_set _ _ _ _) (grown_set _ _ _ _)) (grown_set _ _ _ _)) (grown_set _ _ _ _)) (grown_set _ _ _ _)
theorem set5_row {W : World} {g : Nat} {cs : Array Value} {t : TypeId} (h : W.heap[g]? = some (.cells cs t (0, 0))) (o : Nat) (f : Fld) :
    (World.set5 W g o f).heap[g]? = some (.cells (((((cs.setIfInBounds o (.string f.name)).setIfInBounds (o + 1) (.int .u8 f.h.op)).setIfInBounds (o + 2) (.string f.h.name)).setIfInBounds (o + 3) (.int .i64 f.h.n)).setIfInBounds (o + 4) (.slice f.q f.k.len f.cap)) t (0, 0)) :=
  row_set (row_set (row_set (row_set (row_set h o _) _ _) _ _) _ _) _ _

/-- The slice's array reads as the fields fs. -/
def FlAt (W : World) (B g cap : Nat) (fs : List Fld) : Prop := W.ownsRow B 40 5 (.slice (some ⟨g, 0, none⟩) fs.length cap) fs.length (fldCells fs)
theorem FlAt.parts {W : World} {B g cap : Nat} {fs : List Fld} (h : FlAt W B g cap fs) : ∃ cur, B ≤ g ∧ W.heap[g]? = some (.cells cur 40 (0, 0)) ∧ fs.length ≤ cap ∧ cap ≤ maxLen ∧ cur.size = cap * 5 ∧ cur.toList.take (fs.length * 5) = fldCells fs := by
  rcases h.2 with ⟨h0, _⟩ | ⟨g', cap', cur, e, hb, hg, hc, hm, hs, ht⟩
  · cases h0
  · cases e; exact ⟨cur, hb, hg, hc, hm, hs, ht⟩
theorem FlAt.lt {W : World} {B g cap : Nat} {fs : List Fld} (h : FlAt W B g cap fs) : g < W.heap.size := by
  obtain ⟨cur, _, hg, _⟩ := h.parts; exact (Array.getElem?_eq_some_iff.1 hg).1
theorem FlAt.frozen {W : World} {B g cap : Nat} {fs : List Fld} (h : FlAt W B g cap fs) (o : Nat) : W.frozen? ⟨g, o, none⟩ = false := by
  obtain ⟨cur, _, hg, _⟩ := h.parts; simp [World.frozen?, hg]
theorem FlAt.cell {W : World} {B g cap : Nat} {fs : List Fld} (h : FlAt W B g cap fs) {i : Nat} (hi : i < fs.length) {c : Nat} (hc : c < 5) : W.cell? ⟨g, i * 5 + c, none⟩ = fs[i].enc[c]? := by
  obtain ⟨cur, _, hg, _, _, _, ht⟩ := h.parts
  have e1 := fldCells_get fs i c hc
  rw [← ht, List.getElem?_take, if_pos (by have := Nat.mul_le_mul_right 5 (show i + 1 ≤ fs.length from hi); omega)] at e1
  simp only [World.cell?, hg]
  rw [List.getElem?_eq_getElem hi] at e1
  simpa using e1
theorem FlAt.cells {W : World} {B g cap : Nat} {fs : List Fld} (h : FlAt W B g cap fs) {i : Nat} (hi : i < fs.length) :
    W.cell? ⟨g, i * 5, none⟩ = some (.string fs[i].name) ∧ W.cell? ⟨g, i * 5 + 1, none⟩ = some (.int .u8 fs[i].h.op) ∧ W.cell? ⟨g, i * 5 + 2, none⟩ = some (.string fs[i].h.name) ∧ W.cell? ⟨g, i * 5 + 3, none⟩ = some (.int .i64 fs[i].h.n) ∧ W.cell? ⟨g, i * 5 + 4, none⟩ = some (.slice fs[i].q fs[i].k.len fs[i].cap) :=
  ⟨h.cell hi (c := 0) (by omega), h.cell hi (c := 1) (by omega), h.cell hi (c := 2) (by omega), h.cell hi (c := 3) (by omega), h.cell hi (c := 4) (by omega)⟩
theorem FlAt.kept {W W' : World} {B g cap : Nat} {fs : List Fld} (h : FlAt W B g cap fs) (hb : Below W.heap.size W W') : FlAt W' B g cap fs :=
  World.ownsRow.kept h (row := none) ⟨hb.os, hb.tape, hb.output, hb.size, fun k hk _ => hb.block k hk⟩ (.inr (by simp [Value.ownBlock]))

theorem get_set5 {cs : Array Value} {o t : Nat} {v0 v1 v2 v3 v4 : Value} (ho : o + 4 < cs.size) :
    (((((cs.setIfInBounds o v0).setIfInBounds (o + 1) v1).setIfInBounds (o + 2) v2).setIfInBounds (o + 3) v3).setIfInBounds (o + 4) v4)[t]? =
      if o ≤ t ∧ t < o + 5 then [v0, v1, v2, v3, v4][t - o]? else cs[t]? := by
  simp only [Array.getElem?_setIfInBounds, Array.size_setIfInBounds]
  by_cases h : o ≤ t ∧ t < o + 5
  · rw [if_pos h]
    obtain ⟨c, rfl⟩ : ∃ c, t = o + c := ⟨t - o, by omega⟩
    have hc : c = 0 ∨ c = 1 ∨ c = 2 ∨ c = 3 ∨ c = 4 := by omega
    rcases hc with rfl | rfl | rfl | rfl | rfl
    · rw [if_neg (by omega), if_neg (by omega), if_neg (by omega), if_neg (by omega), if_pos (by omega), if_pos (by omega)]; simp
    · rw [if_neg (by omega), if_neg (by omega), if_neg (by omega), if_pos (by omega), if_pos (by omega)]; simp
    · rw [if_neg (by omega), if_neg (by omega), if_pos (by omega), if_pos (by omega)]; simp
    · rw [if_neg (by omega), if_pos (by omega), if_pos (by omega)]; simp
    · rw [if_pos (by omega), if_pos (by omega)]; simp
  · rw [if_neg h, if_neg (by omega), if_neg (by omega), if_neg (by omega), if_neg (by omega), if_neg (by omega)]

theorem FlAt.set {W : World} {B g cap : Nat} {fs : List Fld} (h : FlAt W B g cap fs) {i : Nat} (hi : i < fs.length) (f : Fld) : FlAt (World.set5 W g (i * 5) f) B g cap (fs.set i f) := by
  obtain ⟨cur, hb, hg, hc, hm, hs, ht⟩ := h.parts
  have hi5 : i * 5 + 5 ≤ fs.length * 5 := by have := Nat.mul_le_mul_right 5 (show i + 1 ≤ fs.length from hi); omega
  have hc5 : fs.length * 5 ≤ cap * 5 := Nat.mul_le_mul_right 5 hc
  unfold FlAt
  rw [List.length_set]
  refine ⟨by rw [length_fldCells, List.length_set], .inr ⟨g, cap, _, rfl, hb, set5_row hg (i * 5) f, hc, hm, by simp [hs], ?_⟩⟩
  apply List.ext_getElem?
  intro t
  by_cases htn : t < fs.length * 5
  · rw [List.getElem?_take_of_lt htn, Array.getElem?_toList, get_set5 (by omega)]
    have e1 := fldCells_get (fs.set i f) (t / 5) (t % 5) (by omega)
    have e2 := fldCells_get fs (t / 5) (t % 5) (by omega)
    rw [show t / 5 * 5 + t % 5 = t by omega] at e1 e2
    rw [e1, List.getElem?_set]
    by_cases h5 : i * 5 ≤ t ∧ t < i * 5 + 5
    · rw [if_pos h5, if_pos (by omega), if_pos hi]
      have : t - i * 5 = t % 5 := by omega
      rw [this]
      rfl
    · rw [if_neg h5, if_neg (by omega), ← e2, ← ht, List.getElem?_take_of_lt htn, Array.getElem?_toList]
  · rw [List.getElem?_eq_none (by simp; omega), List.getElem?_eq_none (by rw [length_fldCells, List.length_set]; omega)]

/-- Two fields change places. -/
def swF (fs : List Fld) (i j : Nat) : List Fld := (fs.set i (fs.getD j default)).set j (fs.getD i default)
end Go.Proofs.Ytcjhgefkbnbmnaa

/- The stable sort of fields: lists, plain. -/
namespace Go.Proofs.Ytcjhgefkbnbmnaa
open Go.RowKit LM
set_option linter.unusedVariables false

/-- k exchanges of fields, one behind the other. -/
def swR (fs : List Fld) (a b : Nat) : Nat → List Fld
  | 0 => fs
  | k + 1 => swF (swR fs a b k) (a + k) (b + k)
/-! ### Merging -/
section
variable {α : Type} (lt : α → α → Bool)
/-- x goes behind those that aren't greater. -/
def ins (x : α) : List α → List α
  | [] => [x]
  | y :: l => if lt x y then x :: y :: l else y :: ins x l
/-- Sorted, one goes in behind the other. -/
def srt (l : List α) : List α := l.foldl (fun acc x => ins lt x acc) []
/-- Two sorted lists merged; of equals those of the first one come first. -/
def mrg : List α → List α → List α
  | [], r => r
  | x :: l, [] => x :: l
  | x :: l, y :: r => if lt y x then y :: mrg (x :: l) r else x :: mrg l (y :: r)
termination_by l r => l.length + r.length

structure Ord : Prop where
  asym : ∀ x y, lt x y = true → lt y x = false
  neg : ∀ x y z, lt x y = true → lt x z = true ∨ lt z y = true
/-- It rises. -/
def Ris (l : List α) : Prop := l.Pairwise fun x y => lt y x = false
variable {lt}
theorem Ord.le_tr (o : Ord lt) {x y z : α} (h : lt y x = false) (k : lt z y = false) : lt z x = false := by
  cases hx : lt z x with
  | false => rfl
  | true =>
    rcases o.neg z x y hx with h1 | h1
    · rw [h1] at k; cases k
    · rw [h1] at h; cases h
theorem Ris.cons {x : α} {l : List α} : Ris lt (x :: l) ↔ (∀ y ∈ l, lt y x = false) ∧ Ris lt l := List.pairwise_cons
theorem mem_ins {x z : α} : ∀ {l : List α}, z ∈ ins lt x l ↔ z = x ∨ z ∈ l
  | [] => by simp [ins]
  | y :: l => by
    unfold ins; split
    · simp
    · simp only [List.mem_cons, mem_ins]; constructor
      · rintro (h | h | h) <;> simp [h]
      · rintro (h | h | h) <;> simp [h]
theorem ris_ins (o : Ord lt) {x : α} : ∀ {l : List α}, Ris lt l → Ris lt (ins lt x l)
  | [], _ => by simp [ins, Ris]
  | y :: l, h => by
    obtain ⟨h1, h2⟩ := Ris.cons.1 h
    unfold ins
    cases hxy : lt x y with
    | true =>
      rw [if_pos rfl]
      refine Ris.cons.2 ⟨fun z hz => ?_, h⟩
      rcases List.mem_cons.1 hz with rfl | hz
      · exact o.asym _ _ hxy
      · exact o.le_tr (o.asym _ _ hxy) (h1 z hz)
    | false =>
      rw [if_neg (by simp)]
      refine Ris.cons.2 ⟨fun z hz => ?_, ris_ins o h2⟩
      rcases mem_ins.1 hz with rfl | hz
      · exact hxy
      · exact h1 z hz
theorem length_ins {x : α} : ∀ {l : List α}, (ins lt x l).length = l.length + 1
  | [] => rfl
  | y :: l => by unfold ins; split <;> simp [length_ins]
theorem srt_snoc (l : List α) (x : α) : srt lt (l ++ [x]) = ins lt x (srt lt l) := by simp [srt, List.foldl_append]
theorem ris_srt (o : Ord lt) (l : List α) : Ris lt (srt lt l) := by
  have : ∀ (l acc : List α), Ris lt acc → Ris lt (l.foldl (fun acc x => ins lt x acc) acc) := by
    intro l
    induction l with
    | nil => intro acc h; exact h
    | cons x l ih => intro acc h; exact ih _ (ris_ins o h)
  exact this l [] List.Pairwise.nil
theorem length_srt (l : List α) : (srt lt l).length = l.length := by
  have : ∀ (l acc : List α), (l.foldl (fun acc x => ins lt x acc) acc).length = acc.length + l.length := by
    intro l
    induction l with
    | nil => intro acc; simp
    | cons x l ih => intro acc; rw [List.foldl_cons, ih, length_ins]; simp; omega
  have := this l []
  simpa [srt] using this
end
end Go.Proofs.Ytcjhgefkbnbmnaa

/- The stable sort of fields: swapRange, rotate. -/
namespace Go.Proofs.Ytcjhgefkbnbmnaa
open Go.RowKit LM
set_option linter.unusedVariables false

/-- While two neighbours are turned: U and V are still to change places. -/
def RotI (W : World) (B g cap : Nat) (G : List Fld) (m N : Nat) (i j : Nat) (wr : World) : Prop :=
  ∃ P U V S : List Fld, U.length = i ∧ V.length = j ∧ 0 < i ∧ 0 < j ∧ P.length + i = m ∧ P ++ V ++ U ++ S = G ∧ (P ++ U ++ V ++ S).length = N ∧ FlAt wr B g cap (P ++ U ++ V ++ S) ∧ W.grownBy wr (some g)

end Go.Proofs.Ytcjhgefkbnbmnaa

/- The stable sort of fields: symMerge. -/
namespace Go.Proofs.Ytcjhgefkbnbmnaa
open Go.RowKit LM
set_option linter.unusedVariables false

/-- Less by name. -/
def ltF (x y : Fld) : Bool := decide (fldCmp x y < 0)

end Go.Proofs.Ytcjhgefkbnbmnaa

/- The stable sort of fields: the order of names, insertion sort, blocks: plain. -/
namespace Go.Proofs.Ytcjhgefkbnbmnaa
open Go.RowKit LM Go.Sort Go.Shelf
set_option linter.unusedVariables false

theorem cmpB_lt : ∀ (a b : List UInt8), Lib.compareBytes a b < 0 ↔ a < b
  | [], [] => by simp [Lib.compareBytes]
  | [], _ :: _ => by simp [Lib.compareBytes]
  | _ :: _, [] => by simp [Lib.compareBytes]
  | a :: ta, b :: tb => by
    have ih := cmpB_lt ta tb
    unfold Lib.compareBytes
    rw [List.cons_lt_cons_iff]
    by_cases h1 : a < b
    · simp [h1]
    · rw [if_neg h1]
      by_cases h2 : b < a
      · rw [if_pos h2]
        have : a ≠ b := fun e => by subst e; exact h1 h2
        simp [h1, this]
      · rw [if_neg h2]
        have : a = b := UInt8.le_antisymm (UInt8.not_lt.1 h2) (UInt8.not_lt.1 h1)
        subst this
        simp [h1, ih]
theorem ltF_iff (x y : Fld) : ltF x y = true ↔ x.name.data.toList < y.name.data.toList := by
  unfold ltF fldCmp
  rw [decide_eq_true_iff]; exact cmpB_lt _ _
theorem ordF : Ord ltF := by
  refine ⟨fun x y h => ?_, fun x y z h => ?_⟩
  · cases h2 : ltF y x with
    | false => rfl
    | true => exact absurd ((ltF_iff y x).1 h2) (List.lt_asymm ((ltF_iff x y).1 h))
  · rw [ltF_iff] at *
    rw [ltF_iff]
    by_cases h1 : x.name.data.toList < z.name.data.toList
    · exact .inl h1
    · exact .inr (List.lt_of_le_of_lt (List.not_lt.1 h1) h)

section
variable {α : Type} {lt : α → α → Bool}
theorem ins_snoc {x y : α} (h : lt x y = true) : ∀ l : List α, ins lt x (l ++ [y]) = ins lt x l ++ [y]
  | [] => by simp [ins, h]
  | z :: l => by
    rw [List.cons_append, ins, ins]
    split
    · rfl
    · rw [ins_snoc h l]; rfl
theorem ins_all {x : α} : ∀ {l : List α}, (∀ z ∈ l, lt x z = false) → ins lt x l = l ++ [x]
  | [], _ => rfl
  | z :: l, h => by
    rw [ins, if_neg (by simp [h z (by simp)]), ins_all (fun a ha => h a (by simp [ha]))]; rfl
theorem srt_one (x : α) : srt lt [x] = [x] := rfl
variable [Inhabited α]
theorem swp_list (A T : List α) (x y : α) {j : Nat} (hj : j = A.length) : swp (A ++ y :: x :: T).toArray (j + 1) j = (A ++ x :: y :: T).toArray := by
  subst hj
  unfold swp
  have g1 : (A ++ y :: x :: T).toArray[A.length]! = y := by simp
  have g2 : (A ++ y :: x :: T).toArray[A.length + 1]! = x := by
    simp
  rw [g1, g2]
  simp only [List.setIfInBounds_toArray]
  rw [List.set_append_right _ _ (by omega), show A.length + 1 - A.length = 1 by omega, List.set_cons_succ, List.set_cons_zero, List.set_append_right _ _ (by omega), Nat.sub_self, List.set_cons_zero]
theorem insInner_list (o : Ord lt) (P T : List α) (x : α) : ∀ (n : Nat) (Y : List α) (T : List α), Y.length = n → Ris lt Y → insInner lt P.length (P.length + n) (P ++ Y ++ x :: T).toArray = (P ++ ins lt x Y ++ T).toArray := by
  intro n
  induction n with
  | zero =>
    intro Y T hY _
    obtain rfl := List.length_eq_zero_iff.1 hY
    have e : (P ++ [] ++ x :: T).toArray = (P ++ ins lt x [] ++ T).toArray := by simp [ins]
    rw [e]
    cases h : P.length with
    | zero => rw [insInner.eq_def]
    | succ k => rw [show k + 1 + 0 = k + 1 by omega, insInner]; simp
  | succ n ih =>
    intro Y T hY hR
    obtain ⟨Y, y, rfl⟩ : ∃ Z z, Y = Z ++ [z] := ⟨Y.dropLast, Y.getLast (by intro e; rw [e] at hY; simp at hY), (List.dropLast_concat_getLast _).symm⟩
    simp only [List.length_append, List.length_cons, List.length_nil] at hY
    have hR1 : Ris lt Y := (List.pairwise_append.1 hR).1
    have hR2 : ∀ z ∈ Y, lt y z = false := fun z hz => (List.pairwise_append.1 hR).2.2 z hz y (by simp)
    have e0 : P ++ (Y ++ [y]) ++ x :: T = (P ++ Y) ++ y :: x :: T := by simp
    have g1 : ((P ++ Y) ++ y :: x :: T).toArray[P.length + n]! = y := by
      have : P.length + n = (P ++ Y).length := by simp; omega
      rw [this]; simp
    have g2 : ((P ++ Y) ++ y :: x :: T).toArray[P.length + n + 1]! = x := by
      have : P.length + n + 1 = (P ++ Y).length + 1 := by simp; omega
      rw [this, List.getElem!_toArray, List.getElem!_eq_getElem?_getD, List.getElem?_append_right (by omega), show (P ++ Y).length + 1 - (P ++ Y).length = 1 by omega]
      rfl
    rw [e0, show P.length + (n + 1) = P.length + n + 1 by omega, insInner, g1, g2]
    cases hxy : lt x y with
    | true =>
      rw [if_pos (by simp; omega), swp_list _ _ _ _ (by simp; omega), ins_snoc hxy]
      have := ih Y (y :: T) (by omega) hR1
      rw [this]; simp
    | false =>
      rw [if_neg (by simp)]
      rw [ins_all (fun z hz => by
        rcases List.mem_append.1 hz with h | h
        · exact o.le_tr (hR2 z h) hxy
        · simp at h; subst h; exact hxy)]
      simp
theorem insOuter_list (o : Ord lt) (P S : List α) : ∀ (n : Nat) (Y Z : List α), Z.length = n → insOuter lt P.length (P.length + Y.length + n) (P.length + Y.length) (P ++ srt lt Y ++ Z ++ S).toArray = (P ++ srt lt (Y ++ Z) ++ S).toArray := by
  intro n
  induction n with
  | zero =>
    intro Y Z hZ
    obtain rfl := List.length_eq_zero_iff.1 hZ
    rw [insOuter, if_neg (by omega)]; simp
  | succ n ih =>
    intro Y Z hZ
    cases Z with
    | nil => simp at hZ
    | cons x Z =>
      simp only [List.length_cons] at hZ
      rw [insOuter, if_pos (by omega)]
      have h1 := insInner_list o P S x Y.length (srt lt Y) (Z ++ S) (length_srt Y) (ris_srt o Y)
      have e1 : P ++ srt lt Y ++ x :: Z ++ S = P ++ srt lt Y ++ x :: (Z ++ S) := by simp
      rw [e1, h1, ← srt_snoc]
      have h2 := ih (Y ++ [x]) Z (by omega)
      have e2 : P.length + (Y ++ [x]).length + n = P.length + Y.length + (n + 1) := by simp; omega
      have e3 : P.length + (Y ++ [x]).length = P.length + Y.length + 1 := by simp; omega
      rw [e2, e3] at h2
      have e4 : P ++ srt lt (Y ++ [x]) ++ (Z ++ S) = P ++ srt lt (Y ++ [x]) ++ Z ++ S := by simp
      rw [e4, h2]; simp
theorem insSort_list (o : Ord lt) (P X S : List α) {a b : Nat} (ha : a = P.length) (hb : b = a + X.length) : (Sort.insertionSort lt (P ++ X ++ S).toArray a b).toList = P ++ srt lt X ++ S := by
  subst ha hb
  unfold Sort.insertionSort
  cases X with
  | nil => rw [insOuter, if_neg (by simp)]; simp [srt]
  | cons x X =>
    have := insOuter_list o P S X.length [x] X rfl
    rw [srt_one] at this
    have e : P.length + (x :: X).length = P.length + [x].length + X.length := by simp; omega
    have e2 : P.length + 1 = P.length + [x].length := rfl
    rw [e, e2, show P ++ x :: X ++ S = P ++ [x] ++ X ++ S by simp, this]
    simp
end

/-! ### Blocks -/
section
variable {α : Type} (lt : α → α → Bool)
/-- Each s of them sorted alone. -/
def blk (s : Nat) (l : List α) : List α := if h : 0 < s ∧ s < l.length then srt lt (l.take s) ++ blk s (l.drop s) else srt lt l
termination_by l.length
decreasing_by simp; omega
variable {lt}
end
end Go.Proofs.Ytcjhgefkbnbmnaa

/- The stable sort of fields: symMerge where the second part has one. -/
namespace Go.Proofs.Ytcjhgefkbnbmnaa
open Go.RowKit LM
set_option linter.unusedVariables false

end Go.Proofs.Ytcjhgefkbnbmnaa

/- The stable sort of fields: symMerge. -/
namespace Go.Proofs.Ytcjhgefkbnbmnaa
open Go.RowKit LM
set_option linter.unusedVariables false

/-- What the call with these parts must do. -/
def SymOk (n : Nat) : Prop := ∀ (W : World) (B g cap : Nat) (P L R S : List Fld) (a m b N : Nat), L.length + R.length ≤ n → FlAt W B g cap (P ++ L ++ R ++ S) → (P ++ L ++ R ++ S).length = N → a = P.length → m = a + L.length → b = m + R.length → 0 < L.length → 0 < R.length →
  N ≤ 1099511627776 → Ris ltF L → Ris ltF R → Calls Try.prog 129 #[.slice (some ⟨g, 0, none⟩) N cap, .int .i64 a, .int .i64 m, .int .i64 b, .func (.func 95) #[] #[]] W fun e w' => e = .returned (.tuple #[]) ∧ FlAt w' B g cap (P ++ mrg ltF L R ++ S) ∧ W.grownBy w' (some g)

/-- Where the two parts are cut. -/
structure SymCut (L R : List Fld) (a m b mid s : Nat) : Prop where
  la : a ≤ s
  lm : s ≤ m
  lmid : s ≤ mid
  lr : mid ≤ s + R.length
  hb : ∀ (h1 : s < m) (h2 : s < mid) (h3 : s - a < L.length) (h4 : mid - 1 - s < R.length), ltF R[mid - 1 - s] L[s - a] = true
  ha : ∀ (h1 : a < s) (h2 : mid < s + R.length) (h3 : s - 1 - a < L.length) (h4 : mid - s < R.length), ltF R[mid - s] L[s - 1 - a] = false

end Go.Proofs.Ytcjhgefkbnbmnaa

/- The stable sort of fields: symMerge, the other case. -/
namespace Go.Proofs.Ytcjhgefkbnbmnaa
open Go.RowKit LM
set_option linter.unusedVariables false

end Go.Proofs.Ytcjhgefkbnbmnaa

/- The stable sort of fields: whatever their number. -/
namespace Go.Proofs.Ytcjhgefkbnbmnaa
open Go.RowKit LM Go.Shelf Go.Sort
set_option linter.unusedVariables false

theorem insF_srt (fs : List Fld) : insF fs = srt ltF fs := by
  have := insSort_list ordF [] fs [] (a := 0) (b := fs.length) rfl (by simp)
  have e : ltF = Go.Proofs.ltOf fldCmp := rfl
  rw [e] at this ⊢
  simpa [insF] using this

end Go.Proofs.Ytcjhgefkbnbmnaa
