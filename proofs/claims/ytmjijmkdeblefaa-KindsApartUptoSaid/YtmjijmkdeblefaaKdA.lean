/- Trees of types in memory: plain words. -/
import Derived.Test.YtmjijmkdeblefaaProg
import Derived.Below
import Derived.Lib.Hide
import Derived.Laws.AppendOwn
namespace Go.Proofs.Ytmjijmkdeblefaa
open Go.RowKit
set_option linter.unusedVariables false

/-- A part of a type, but for its Kids. -/
structure Hd where
  op : Int
  name : ByteArray
  n : Int

structure Hd.ok (h : Hd) : Prop where
  op0 : 0 ≤ h.op
  op1 : h.op ≤ 255
  name : h.name.size ≤ maxLen
  n0 : -9223372036854775808 ≤ h.n
  n1 : h.n ≤ 9223372036854775807

/-- Trees side by side. -/
inductive Fo where
  | nil
  | cons (h : Hd) (k r : Fo)

namespace Fo
def len : Fo → Nat
  | nil => 0
  | cons _ _ r => r.len + 1
def size : Fo → Nat
  | nil => 0
  | cons _ k r => 1 + k.size + r.size
/-- All parts, a part ahead of its Kids. -/
def flat : Fo → List (Hd × Fo)
  | nil => []
  | cons h k r => (h, k) :: (k.flat ++ r.flat)
def ok : Fo → Prop
  | nil => True
  | cons h k r => h.ok ∧ k.ok ∧ r.ok
def toList : Fo → List (Hd × Fo)
  | nil => []
  | cons h k r => (h, k) :: r.toList
def ofList : List (Hd × Fo) → Fo
  | [] => nil
  | (h, k) :: r => cons h k (ofList r)
theorem length_flat (f : Fo) : f.flat.length = f.size := by
  induction f with
  | nil => rfl
  | cons h k r hk hr => simp [flat, size, hk, hr]; omega
theorem len_le_size (f : Fo) : f.len ≤ f.size := by
  induction f with
  | nil => exact Nat.le_refl _
  | cons h k r hk hr => simp [len, size]; omega
theorem length_toList (f : Fo) : f.toList.length = f.len := by
  induction f with
  | nil => rfl
  | cons h k r hk hr => simp [toList, len, hr]
theorem ofList_toList (f : Fo) : ofList f.toList = f := by
  induction f with
  | nil => rfl
  | cons h k r hk hr => simp [toList, ofList, hr]
theorem toList_ofList (l : List (Hd × Fo)) : (ofList l).toList = l := by
  induction l with
  | nil => rfl
  | cons x l ih => obtain ⟨h, k⟩ := x; simp [toList, ofList, ih]
end Fo

/-- The four cells of a part. -/
structure HdAt (w : World) (b o : Nat) (h : Hd) (q : Option Addr) (len cap : Nat) : Prop where
  c0 : w.cell? ⟨b, o, none⟩ = some (.int .u8 h.op)
  c1 : w.cell? ⟨b, o + 1, none⟩ = some (.string h.name)
  c2 : w.cell? ⟨b, o + 2, none⟩ = some (.int .i64 h.n)
  c3 : w.cell? ⟨b, o + 3, none⟩ = some (.slice q len cap)
  lc : len ≤ cap
  cm : cap ≤ maxLen

theorem HdAt.lt {w : World} {b o : Nat} {h : Hd} {q : Option Addr} {len cap : Nat} (hh : HdAt w b o h q len cap) : b < w.heap.size :=
  World.block_lt_of_cell? w _ hh.c0
theorem HdAt.same {w w' : World} {b o : Nat} {h : Hd} {q : Option Addr} {len cap : Nat} (hh : HdAt w b o h q len cap) (e : w'.heap[b]? = w.heap[b]?) : HdAt w' b o h q len cap :=
  ⟨(World.cell?_of_block (a := ⟨b, o, none⟩) e).trans hh.c0, (World.cell?_of_block (a := ⟨b, o + 1, none⟩) e).trans hh.c1, (World.cell?_of_block (a := ⟨b, o + 2, none⟩) e).trans hh.c2,
   (World.cell?_of_block (a := ⟨b, o + 3, none⟩) e).trans hh.c3, hh.lc, hh.cm⟩

/-- The trees f lie side by side at (b, o) in w. -/
def FoAt (w : World) : Fo → Nat → Nat → Prop
  | .nil, _, _ => True
  | .cons h k r, b, o => ∃ q cap, HdAt w b o h q k.len cap ∧ (0 < k.len → ∃ b' o', q = some ⟨b', o', none⟩ ∧ FoAt w k b' o') ∧ FoAt w r b (o + 4)

/-- A slice of Kids reads as f. -/
structure SlF (w : World) (q : Option Addr) (cap : Nat) (f : Fo) : Prop where
  lc : f.len ≤ cap
  cm : cap ≤ maxLen
  at_ : 0 < f.len → ∃ b o, q = some ⟨b, o, none⟩ ∧ FoAt w f b o

theorem FoAt.below {w w' : World} (hb : Below w.heap.size w w') : ∀ {f : Fo} {b o : Nat}, FoAt w f b o → FoAt w' f b o
  | .nil, _, _, _ => trivial
  | .cons h k r, b, o, ⟨q, cap, hh, hk, hr⟩ => ⟨q, cap, hh.same (hb.block b hh.lt), fun h0 => (hk h0).elim fun b' h1 => h1.elim fun o' h2 => ⟨b', o', h2.1, FoAt.below hb h2.2⟩, FoAt.below hb hr⟩
theorem SlF.below {w w' : World} {q : Option Addr} {cap : Nat} {f : Fo} (hb : Below w.heap.size w w') (h : SlF w q cap f) : SlF w' q cap f :=
  ⟨h.lc, h.cm, fun h0 => (h.at_ h0).elim fun b h1 => h1.elim fun o h2 => ⟨b, o, h2.1, h2.2.below hb⟩⟩

/-- The value of a tree. -/
def trV (h : Hd) (q : Option Addr) (len cap : Nat) : Value := .agg #[.int .u8 h.op, .string h.name, .int .i64 h.n, .slice q len cap]

/-! ### Addresses of parts -/
abbrev Pl := Nat × Nat
def Pl.ptr (p : Pl) : Value := .pointer (some ⟨p.1, p.2, none⟩)
/-- The places of the Kids in an array at (b, o). -/
def kidsP (b o len : Nat) : List Pl := (List.range len).map fun i => (b, o + i * 4)
theorem length_kidsP (b o len : Nat) : (kidsP b o len).length = len := by simp [kidsP]
theorem kidsP_succ (b o len : Nat) : kidsP b o (len + 1) = (b, o) :: kidsP b (o + 4) len := by
  simp only [kidsP, List.range_succ_eq_map, List.map_cons, List.map_map]
  congr 1
  apply List.map_congr_left
  intro i _
  simp only [Function.comp]; congr 1; omega
theorem kidsP_drop (b o len m : Nat) (h : m < len) : (kidsP b o len).drop m = (b, o + m * 4) :: (kidsP b o len).drop (m + 1) := by
  rw [List.drop_eq_getElem_cons (by rw [length_kidsP]; exact h)]
  simp [kidsP]

/-- The least number of which p holds. -/
theorem least_ex (p : Nat → Prop) (h : ∃ k, p k) : ∃ k, p k ∧ ∀ j, p j → k ≤ j := by
  obtain ⟨k, hk⟩ := h
  induction k using Nat.strongRecOn with
  | ind k ih =>
    by_cases hx : ∃ j, j < k ∧ p j
    · obtain ⟨j, hj, hp⟩ := hx; exact ih j hj hp
    · exact ⟨k, hk, fun j hj => Nat.le_of_not_lt fun hl => hx ⟨j, hl, hj⟩⟩
open Classical in
noncomputable def least (p : Nat → Prop) : Nat := if h : ∃ k, p k then Classical.choose (least_ex p h) else 0
theorem least_spec {p : Nat → Prop} {k : Nat} (h : p k) : p (least p) := by
  unfold least; rw [dif_pos ⟨k, h⟩]; exact (Classical.choose_spec (least_ex p ⟨k, h⟩)).1
theorem least_le {p : Nat → Prop} {k : Nat} (h : p k) : least p ≤ k := by
  unfold least; rw [dif_pos ⟨k, h⟩]; exact (Classical.choose_spec (least_ex p ⟨k, h⟩)).2 k h
theorem least_lt {p q : Nat → Prop} {j : Nat} (h : p j) (hlt : j < least q) : least p < least q := Nat.lt_of_le_of_lt (least_le h) hlt

/-- From W to W' only blocks below n₀, those that D names, and new ones have turned; D' names some of these. -/
structure Tch (n₀ : Nat) (D D' : Nat → Prop) (W W' : World) : Prop where
  size : W.heap.size ≤ W'.heap.size
  same : ∀ b, n₀ ≤ b → b < W.heap.size → ¬ D b → W'.heap[b]? = W.heap[b]?
  own : ∀ b, D' b → D b ∨ (W.heap.size ≤ b ∧ b < W'.heap.size)
  keep : ∀ b, D b → D' b

theorem Tch.refl (n₀ : Nat) (D : Nat → Prop) (W : World) : Tch n₀ D D W W := ⟨Nat.le_refl _, fun _ _ _ _ => rfl, fun _ h => .inl h, fun _ h => h⟩
theorem Tch.trans {n₀ : Nat} {D D' D'' : Nat → Prop} {W W' W'' : World} (h : Tch n₀ D D' W W') (k : Tch n₀ D' D'' W' W'') : Tch n₀ D D'' W W'' :=
  ⟨Nat.le_trans h.size k.size, fun b hb hlt hd => (k.same b hb (Nat.lt_of_lt_of_le hlt h.size) (fun hd' => (h.own b hd').elim hd (fun h' => by omega))).trans (h.same b hb hlt hd),
   fun b hb => (k.own b hb).elim (fun h' => (h.own b h').imp id (fun h2 => ⟨h2.1, Nat.lt_of_lt_of_le h2.2 k.size⟩)) (fun h' => .inr ⟨Nat.le_trans h.size h'.1, h'.2⟩), fun b hb => k.keep b (h.keep b hb)⟩
theorem Tch.mono {n₀ n₁ : Nat} {D D' : Nat → Prop} {W W' : World} (h : Tch n₀ D D' W W') (hn : n₀ ≤ n₁) : Tch n₁ D D' W W' :=
  ⟨h.size, fun b hb => h.same b (Nat.le_trans hn hb), h.own, h.keep⟩

end Go.Proofs.Ytmjijmkdeblefaa
