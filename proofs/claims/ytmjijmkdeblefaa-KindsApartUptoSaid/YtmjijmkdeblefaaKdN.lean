/- flat: the fields of a row, as they lie. -/
import Derived.Test.YtmjijmkdeblefaaKdK
import Derived.Deep.RegionLaw
import Derived.Outline
namespace Go.Proofs.Ytmjijmkdeblefaa
open Go.RowKit LM
set_option linter.unusedVariables false

/-- A field, as it lies in a list of fields. -/
structure Fld where
  name : ByteArray
  h : Hd
  q : Option Addr
  k : Fo
  cap : Nat
instance : Inhabited Fld := ⟨⟨⟨#[]⟩, ⟨0, ⟨#[]⟩, 0⟩, none, .nil, 0⟩⟩
def Fld.enc (f : Fld) : List Value := [.string f.name, .int .u8 f.h.op, .string f.h.name, .int .i64 f.h.n, .slice f.q f.k.len f.cap]
def fldCells (l : List Fld) : List Value := l.flatMap Fld.enc
theorem length_fldCells (l : List Fld) : (fldCells l).length = l.length * 5 := by
  induction l with
  | nil => rfl
  | cons f l ih => simp only [fldCells, List.flatMap_cons, List.length_append] at ih ⊢; rw [ih]; simp [Fld.enc]; omega
theorem fldCells_snoc (l : List Fld) (f : Fld) : fldCells (l ++ [f]) = fldCells l ++ f.enc := by simp [fldCells]

/-- A row (h, k) in w: its fields from the outside to the inside, and its tail. -/
inductive RowCh (w : World) : Hd → Fo → Option Addr → Nat → List Fld → Hd → Fo → Option Addr → Nat → Prop
  | stop {h : Hd} {k : Fo} {q : Option Addr} {cap : Nat} (hop : h.op ≠ 11) (hs : SlF w q cap k) : RowCh w h k q cap [] h k q cap
  | step {h h0 h1 th : Hd} {k0 k1 r tk : Fo} {q0 q1 tq : Option Addr} {b o cap cap0 cap1 tc : Nat} {fs : List Fld} (hop : h.op = 11) (hcap : (Fo.cons h0 k0 (.cons h1 k1 r)).len ≤ cap ∧ cap ≤ maxLen)
      (a0 : HdAt w b o h0 q0 k0.len cap0) (a1 : HdAt w b (o + 4) h1 q1 k1.len cap1) (s0 : SlF w q0 cap0 k0) (s1 : SlF w q1 cap1 k1) (next : RowCh w h1 k1 q1 cap1 fs th tk tq tc) :
      RowCh w h (.cons h0 k0 (.cons h1 k1 r)) (some ⟨b, o, none⟩) cap (⟨h.name, h0, q0, k0, cap0⟩ :: fs) th tk tq tc

theorem RowCh.under {w w' : World} (hb : Below w.heap.size w w') {h : Hd} {k : Fo} {q : Option Addr} {cap : Nat} {fs : List Fld} {th : Hd} {tk : Fo} {tq : Option Addr} {tc : Nat} (hc : RowCh w h k q cap fs th tk tq tc) : RowCh w' h k q cap fs th tk tq tc := by
  induction hc with
  | stop hop hs => exact .stop hop (hs.below hb)
  | step hop hcap a0 a1 s0 s1 _ ih => exact .step hop hcap (a0.same (hb.block _ a0.lt)) (a1.same (hb.block _ a1.lt)) (s0.below hb) (s1.below hb) ih

/-- The fields of a row, and its tail, plainly. -/
def rowF : Hd → Fo → List (ByteArray × Hd × Fo) × (Hd × Fo)
  | h, .cons h0 k0 (.cons h1 k1 r) => if h.op = 11 then ((h.name, h0, k0) :: (rowF h1 k1).1, (rowF h1 k1).2) else ([], (h, .cons h0 k0 (.cons h1 k1 r)))
  | h, k => ([], (h, k))
/-- Each RField has two Kids at least. -/
def rowOK : Hd → Fo → Prop
  | h, .cons h0 k0 (.cons h1 k1 r) => h.op = 11 → rowOK h1 k1
  | h, _ => h.op ≠ 11

theorem RowCh.of {w : World} : ∀ (k : Fo) (h : Hd) (q : Option Addr) (cap : Nat), rowOK h k → SlF w q cap k → ∃ fs th tk tq tc, RowCh w h k q cap fs th tk tq tc ∧ rowF h k = (fs.map fun f => (f.name, f.h, f.k), (th, tk))
  | .nil, h, q, cap, hr, hs => ⟨[], h, .nil, q, cap, .stop hr hs, rfl⟩
  | .cons h0 k0 .nil, h, q, cap, hr, hs => ⟨[], h, _, q, cap, .stop hr hs, rfl⟩
  | .cons h0 k0 (.cons h1 k1 r), h, q, cap, hr, hs => by
    by_cases hop : h.op = 11
    · obtain ⟨b, o, rfl, q0, cap0, a0, s0, q1, cap1, a1, s1, _⟩ := hs.at_ (by simp [Fo.len])
      have s1' : SlF w q1 cap1 k1 := ⟨a1.lc, a1.cm, s1⟩
      obtain ⟨fs, th, tk, tq, tc, hc, he⟩ := RowCh.of k1 h1 q1 cap1 (hr hop) s1'
      refine ⟨_, th, tk, tq, tc, .step hop ⟨hs.lc, hs.cm⟩ a0 a1 ⟨a0.lc, a0.cm, s0⟩ s1' hc, ?_⟩
      rw [rowF, if_pos hop, he]; rfl
    · exact ⟨[], h, _, q, cap, .stop hop hs, by rw [rowF, if_neg hop]; rfl⟩
theorem RowCh.len {w : World} {h : Hd} {k : Fo} {q : Option Addr} {cap : Nat} {fs : List Fld} {th : Hd} {tk : Fo} {tq : Option Addr} {tc : Nat} (hc : RowCh w h k q cap fs th tk tq tc) : fs.length ≤ k.size := by
  induction hc with
  | stop hop hs => exact Nat.zero_le _
  | step hop hcap a0 a1 s0 s1 _ ih => simp [Fo.size] at ih ⊢; omega

theorem info37 : (Try.prog.info? 40).map (fun i => (i.zero, i.size, i.bytes)) = some (some (.agg #[.string ⟨#[]⟩, .int .u8 0, .string ⟨#[]⟩, .int .i64 0, .slice none 0 0]), 5, 72) := by kernel_rfl

end Go.Proofs.Ytmjijmkdeblefaa
