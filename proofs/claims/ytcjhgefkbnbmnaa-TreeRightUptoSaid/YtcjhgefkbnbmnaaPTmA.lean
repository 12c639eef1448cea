/- Terms in memory: plain words. -/
import Derived.Test.YtcjhgefkbnbmnaaPKdK
namespace Go.Proofs.Ytcjhgefkbnbmnaa
open Go.RowKit
set_option linter.unusedVariables false

/-- A node of a term, but for its Kids; its annotation is a tree of types. -/
structure TH where
  op : Int
  name : ByteArray
  arg : ByteArray
  n : Int
  has : Bool
  ah : Hd
  ak : Fo
structure TH.ok (h : TH) : Prop where
  op0 : 0 ≤ h.op
  op1 : h.op ≤ 255
  name : h.name.size ≤ maxLen
  arg : h.arg.size ≤ maxLen
  n0 : -9223372036854775808 ≤ h.n
  n1 : h.n ≤ 9223372036854775807
  ah : h.ah.ok
  ak : h.ak.ok

/-- Terms side by side. -/
inductive TF where
  | nil
  | cons (h : TH) (k r : TF)

namespace TF
def len : TF → Nat
  | nil => 0
  | cons _ _ r => r.len + 1
/-- How many nodes. -/
def size : TF → Nat
  | nil => 0
  | cons _ k r => 1 + k.size + r.size
/-- How many nodes and parts of annotations. -/
def bulk : TF → Nat
  | nil => 0
  | cons h k r => 1 + h.ak.size + k.bulk + r.bulk
/-- All nodes, a node ahead of its Kids. -/
def flat : TF → List (TH × TF)
  | nil => []
  | cons h k r => (h, k) :: (k.flat ++ r.flat)
def ok : TF → Prop
  | nil => True
  | cons h k r => h.ok ∧ k.ok ∧ r.ok
def toList : TF → List (TH × TF)
  | nil => []
  | cons h k r => (h, k) :: r.toList
theorem length_flat (f : TF) : f.flat.length = f.size := by
  induction f with
  | nil => rfl
  | cons h k r hk hr => simp [flat, size, hk, hr]; omega
theorem len_le_size (f : TF) : f.len ≤ f.size := by
  induction f with
  | nil => exact Nat.le_refl _
  | cons h k r hk hr => simp [len, size]; omega
theorem size_le_bulk (f : TF) : f.size ≤ f.bulk := by
  induction f with
  | nil => exact Nat.le_refl _
  | cons h k r hk hr => simp [bulk, size]; omega
theorem length_toList (f : TF) : f.toList.length = f.len := by
  induction f with
  | nil => rfl
  | cons h k r hk hr => simp [toList, len, hr]
end TF

/-- The ten cells of a node. -/
structure THAt (w : World) (b o : Nat) (h : TH) (qa : Option Addr) (ca : Nat) (q : Option Addr) (len cap : Nat) : Prop where
  c0 : w.cell? ⟨b, o, none⟩ = some (.int .u8 h.op)
  c1 : w.cell? ⟨b, o + 1, none⟩ = some (.string h.name)
  c2 : w.cell? ⟨b, o + 2, none⟩ = some (.string h.arg)
  c3 : w.cell? ⟨b, o + 3, none⟩ = some (.int .i64 h.n)
  c4 : w.cell? ⟨b, o + 4, none⟩ = some (.bool h.has)
  c5 : w.cell? ⟨b, o + 5, none⟩ = some (.int .u8 h.ah.op)
  c6 : w.cell? ⟨b, o + 6, none⟩ = some (.string h.ah.name)
  c7 : w.cell? ⟨b, o + 7, none⟩ = some (.int .i64 h.ah.n)
  c8 : w.cell? ⟨b, o + 8, none⟩ = some (.slice qa h.ak.len ca)
  c9 : w.cell? ⟨b, o + 9, none⟩ = some (.slice q len cap)
  lc : len ≤ cap
  cm : cap ≤ maxLen

theorem THAt.lt {w : World} {b o : Nat} {h : TH} {qa : Option Addr} {ca : Nat} {q : Option Addr} {len cap : Nat} (hh : THAt w b o h qa ca q len cap) : b < w.heap.size :=
  World.block_lt_of_cell? w _ hh.c0
theorem THAt.cells {w w' : World} {b o : Nat} {h : TH} {qa : Option Addr} {ca : Nat} {q : Option Addr} {len cap : Nat} (hh : THAt w b o h qa ca q len cap) (e : ∀ i, o ≤ i → i < o + 10 → w'.cell? ⟨b, i, none⟩ = w.cell? ⟨b, i, none⟩) : THAt w' b o h qa ca q len cap :=
  ⟨(e o (by omega) (by omega)).trans hh.c0, (e (o + 1) (by omega) (by omega)).trans hh.c1, (e (o + 2) (by omega) (by omega)).trans hh.c2, (e (o + 3) (by omega) (by omega)).trans hh.c3, (e (o + 4) (by omega) (by omega)).trans hh.c4,
   (e (o + 5) (by omega) (by omega)).trans hh.c5, (e (o + 6) (by omega) (by omega)).trans hh.c6, (e (o + 7) (by omega) (by omega)).trans hh.c7, (e (o + 8) (by omega) (by omega)).trans hh.c8, (e (o + 9) (by omega) (by omega)).trans hh.c9, hh.lc, hh.cm⟩
theorem THAt.same {w w' : World} {b o : Nat} {h : TH} {qa : Option Addr} {ca : Nat} {q : Option Addr} {len cap : Nat} (hh : THAt w b o h qa ca q len cap) (e : w'.heap[b]? = w.heap[b]?) : THAt w' b o h qa ca q len cap :=
  hh.cells fun i _ _ => cell_same e i

/-- The terms f lie side by side at (b, o) in w. -/
def TFAt (w : World) : TF → Nat → Nat → Prop
  | .nil, _, _ => True
  | .cons h k r, b, o => ∃ qa ca q cap, THAt w b o h qa ca q k.len cap ∧ SlF w qa ca h.ak ∧ (0 < k.len → ∃ b' o', q = some ⟨b', o', none⟩ ∧ TFAt w k b' o') ∧ TFAt w r b (o + 10)

/-- A slice of Kids reads as f. -/
structure TSl (w : World) (q : Option Addr) (cap : Nat) (f : TF) : Prop where
  lc : f.len ≤ cap
  cm : cap ≤ maxLen
  at_ : 0 < f.len → ∃ b o, q = some ⟨b, o, none⟩ ∧ TFAt w f b o

theorem TFAt.below {w w' : World} (hb : Below w.heap.size w w') : ∀ {f : TF} {b o : Nat}, TFAt w f b o → TFAt w' f b o
  | .nil, _, _, _ => trivial
  | .cons h k r, b, o, ⟨qa, ca, q, cap, hh, ha, hk, hr⟩ => ⟨qa, ca, q, cap, hh.same (hb.block b hh.lt), ha.below hb, fun h0 => (hk h0).elim fun b' h1 => h1.elim fun o' h2 => ⟨b', o', h2.1, TFAt.below hb h2.2⟩, TFAt.below hb hr⟩
theorem TSl.below {w w' : World} {q : Option Addr} {cap : Nat} {f : TF} (hb : Below w.heap.size w w') (h : TSl w q cap f) : TSl w' q cap f :=
  ⟨h.lc, h.cm, fun h0 => (h.at_ h0).elim fun b h1 => h1.elim fun o h2 => ⟨b, o, h2.1, h2.2.below hb⟩⟩
theorem tsl_nil (w : World) : TSl w none 0 .nil := ⟨Nat.le_refl _, Nat.zero_le _, fun h => absurd h (Nat.lt_irrefl _)⟩

/-- The places of the Kids in an array at (b, o). -/
def tkidsP (b o len : Nat) : List Pl := (List.range len).map fun i => (b, o + i * 10)
theorem length_tkidsP (b o len : Nat) : (tkidsP b o len).length = len := by simp [tkidsP]
theorem tkidsP_succ (b o len : Nat) : tkidsP b o (len + 1) = (b, o) :: tkidsP b (o + 10) len := by
  simp only [tkidsP, List.range_succ_eq_map, List.map_cons, List.map_map]
  congr 1
  apply List.map_congr_left
  intro i _
  simp only [Function.comp]; congr 1; omega
theorem tkidsP_drop (b o len m : Nat) (h : m < len) : (tkidsP b o len).drop m = (b, o + m * 10) :: (tkidsP b o len).drop (m + 1) := by
  rw [List.drop_eq_getElem_cons (by rw [length_tkidsP]; exact h)]
  simp [tkidsP]

/-- A place with its level. -/
abbrev LP := Nat × Pl
def LP.enc (p : LP) : List Value := [.int .i64 p.1, .pointer (some ⟨p.2.1, p.2.2, none⟩)]
/-- What is still to come, as it lies. -/
def stC (l : List LP) : List Value := l.reverse.flatMap LP.enc
theorem stC_cons (p : LP) (l : List LP) : stC (p :: l) = stC l ++ p.enc := by simp [stC]
theorem length_stC (l : List LP) : (stC l).length = l.length * 2 := by
  induction l with
  | nil => rfl
  | cons p l ih => rw [stC_cons, List.length_append, ih]; simp [LP.enc]; omega
/-- The Kids' places, a level further down. -/
def lkids (lev b o len : Nat) : List LP := (tkidsP b o len).map fun p => (lev + 1, p)
theorem length_lkids (lev b o len : Nat) : (lkids lev b o len).length = len := by simp [lkids, length_tkidsP]
theorem lkids_succ (lev b o len : Nat) : lkids lev b o (len + 1) = (lev + 1, b, o) :: lkids lev b (o + 10) len := by simp [lkids, tkidsP_succ]
theorem lkids_drop (lev b o len m : Nat) (h : m < len) : (lkids lev b o len).drop m = (lev + 1, b, o + m * 10) :: (lkids lev b o len).drop (m + 1) := by
  rw [List.drop_eq_getElem_cons (by rw [length_lkids]; exact h)]
  simp [lkids, tkidsP]
end Go.Proofs.Ytcjhgefkbnbmnaa
