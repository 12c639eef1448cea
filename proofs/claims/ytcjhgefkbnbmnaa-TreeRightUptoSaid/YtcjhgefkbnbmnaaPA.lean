/- Trees of types in memory: plain words. -/
import Derived.Below
import Derived.Lib.Hide
import Derived.Laws.AppendOwn
import Derived.Test.YtcjhgefkbnbmnaaProg
import Derived.Lib.ParseIntB
import Derived.Laws.BytesArg
import Derived.WalkKit
import Derived.ProofKit
import Derived.Outline
import Derived.Laws.BitsLemmas
import Derived.Test.YtcjhgefkbnbmnaaRows
import Derived.Deep.QuietTactic
import Derived.BigQuiet
import Derived.Deep.Light
import Derived.Deep.RegionWith
import Derived.Deep.CutRange
import Derived.Deep.RegionHeld3
import Derived.Deep.LoopGhost
import Derived.WalkLawsBesides
import Derived.Laws.MakeOwn
import Derived.Deep.Draws
import Derived.IntWalk
namespace Go.Proofs.Ytcjhgefkbnbmnaa
open Go.RowKit
set_option linter.unusedVariables false

/-- A part of a type, but for its Kids. -/
structure Hd where
  op : Int
  name : ByteArray
  n : Int

structure Hd.ok (h : Hd) : Prop where
  op0 : 0 ≤ h.op
  op1 : h.op ≤ 255
  name : h.name.size ≤ maxLen
  n0 : -9223372036854775808 ≤ h.n
  n1 : h.n ≤ 9223372036854775807

/-- Trees side by side. -/
inductive Fo where
  | nil
  | cons (h : Hd) (k r : Fo)

namespace Fo
def len : Fo → Nat
  | nil => 0
  | cons _ _ r => r.len + 1
def size : Fo → Nat
  | nil => 0
  | cons _ k r => 1 + k.size + r.size
/-- All parts, a part ahead of its Kids. -/
def flat : Fo → List (Hd × Fo)
  | nil => []
  | cons h k r => (h, k) :: (k.flat ++ r.flat)
def ok : Fo → Prop
  | nil => True
  | cons h k r => h.ok ∧ k.ok ∧ r.ok
def toList : Fo → List (Hd × Fo)
  | nil => []
  | cons h k r => (h, k) :: r.toList
def ofList : List (Hd × Fo) → Fo
  | [] => nil
  | (h, k) :: r => cons h k (ofList r)
theorem length_flat (f : Fo) : f.flat.length = f.size := by
  induction f with
  | nil => rfl
  | cons h k r hk hr => simp [flat, size, hk, hr]; omega
theorem len_le_size (f : Fo) : f.len ≤ f.size := by
  induction f with
  | nil => exact Nat.le_refl _
  | cons h k r hk hr => simp [len, size]; omega
theorem length_toList (f : Fo) : f.toList.length = f.len := by
  induction f with
  | nil => rfl
  | cons h k r hk hr => simp [toList, len, hr]
end Fo

/-- The four cells of a part. -/
structure HdAt (w : World) (b o : Nat) (h : Hd) (q : Option Addr) (len cap : Nat) : Prop where
  c0 : w.cell? ⟨b, o, none⟩ = some (.int .u8 h.op)
  c1 : w.cell? ⟨b, o + 1, none⟩ = some (.string h.name)
  c2 : w.cell? ⟨b, o + 2, none⟩ = some (.int .i64 h.n)
  c3 : w.cell? ⟨b, o + 3, none⟩ = some (.slice q len cap)
  lc : len ≤ cap
  cm : cap ≤ maxLen

theorem HdAt.lt {w : World} {b o : Nat} {h : Hd} {q : Option Addr} {len cap : Nat} (hh : HdAt w b o h q len cap) : b < w.heap.size :=
  World.block_lt_of_cell? w _ hh.c0
theorem HdAt.same {w w' : World} {b o : Nat} {h : Hd} {q : Option Addr} {len cap : Nat} (hh : HdAt w b o h q len cap) (e : w'.heap[b]? = w.heap[b]?) : HdAt w' b o h q len cap :=
  ⟨(World.cell?_of_block (a := ⟨b, o, none⟩) e).trans hh.c0, (World.cell?_of_block (a := ⟨b, o + 1, none⟩) e).trans hh.c1, (World.cell?_of_block (a := ⟨b, o + 2, none⟩) e).trans hh.c2,
   (World.cell?_of_block (a := ⟨b, o + 3, none⟩) e).trans hh.c3, hh.lc, hh.cm⟩

/-- The trees f lie side by side at (b, o) in w. -/
def FoAt (w : World) : Fo → Nat → Nat → Prop
  | .nil, _, _ => True
  | .cons h k r, b, o => ∃ q cap, HdAt w b o h q k.len cap ∧ (0 < k.len → ∃ b' o', q = some ⟨b', o', none⟩ ∧ FoAt w k b' o') ∧ FoAt w r b (o + 4)

/-- A slice of Kids reads as f. -/
structure SlF (w : World) (q : Option Addr) (cap : Nat) (f : Fo) : Prop where
  lc : f.len ≤ cap
  cm : cap ≤ maxLen
  at_ : 0 < f.len → ∃ b o, q = some ⟨b, o, none⟩ ∧ FoAt w f b o

theorem FoAt.below {w w' : World} (hb : Below w.heap.size w w') : ∀ {f : Fo} {b o : Nat}, FoAt w f b o → FoAt w' f b o
  | .nil, _, _, _ => trivial
  | .cons h k r, b, o, ⟨q, cap, hh, hk, hr⟩ => ⟨q, cap, hh.same (hb.block b hh.lt), fun h0 => (hk h0).elim fun b' h1 => h1.elim fun o' h2 => ⟨b', o', h2.1, FoAt.below hb h2.2⟩, FoAt.below hb hr⟩
theorem SlF.below {w w' : World} {q : Option Addr} {cap : Nat} {f : Fo} (hb : Below w.heap.size w w') (h : SlF w q cap f) : SlF w' q cap f :=
  ⟨h.lc, h.cm, fun h0 => (h.at_ h0).elim fun b h1 => h1.elim fun o h2 => ⟨b, o, h2.1, h2.2.below hb⟩⟩

/-- The value of a tree. -/
def trV (h : Hd) (q : Option Addr) (len cap : Nat) : Value := .agg #[.int .u8 h.op, .string h.name, .int .i64 h.n, .slice q len cap]

/-! ### Addresses of parts -/
abbrev Pl := Nat × Nat
def Pl.ptr (p : Pl) : Value := .pointer (some ⟨p.1, p.2, none⟩)
/-- The places of the Kids in an array at (b, o). -/
def kidsP (b o len : Nat) : List Pl := (List.range len).map fun i => (b, o + i * 4)
theorem length_kidsP (b o len : Nat) : (kidsP b o len).length = len := by simp [kidsP]
theorem kidsP_succ (b o len : Nat) : kidsP b o (len + 1) = (b, o) :: kidsP b (o + 4) len := by
  simp only [kidsP, List.range_succ_eq_map, List.map_cons, List.map_map]
  congr 1
  apply List.map_congr_left
  intro i _
  simp only [Function.comp]; congr 1; omega
theorem kidsP_drop (b o len m : Nat) (h : m < len) : (kidsP b o len).drop m = (b, o + m * 4) :: (kidsP b o len).drop (m + 1) := by
  rw [List.drop_eq_getElem_cons (by rw [length_kidsP]; exact h)]
  simp [kidsP]

/-- The least number of which p holds. -/
theorem least_ex (p : Nat → Prop) (h : ∃ k, p k) : ∃ k, p k ∧ ∀ j, p j → k ≤ j := by
  obtain ⟨k, hk⟩ := h
  induction k using Nat.strongRecOn with
  | ind k ih =>
    by_cases hx : ∃ j, j < k ∧ p j
    · obtain ⟨j, hj, hp⟩ := hx; exact ih j hj hp
    · exact ⟨k, hk, fun j hj => Nat.le_of_not_lt fun hl => hx ⟨j, hl, hj⟩⟩
open Classical in
noncomputable def least (p : Nat → Prop) : Nat := if h : ∃ k, p k then Classical.choose (least_ex p h) else 0
theorem least_spec {p : Nat → Prop} {k : Nat} (h : p k) : p (least p) := by
  unfold least; rw [dif_pos ⟨k, h⟩]; exact (Classical.choose_spec (least_ex p ⟨k, h⟩)).1
theorem least_le {p : Nat → Prop} {k : Nat} (h : p k) : least p ≤ k := by
  unfold least; rw [dif_pos ⟨k, h⟩]; exact (Classical.choose_spec (least_ex p ⟨k, h⟩)).2 k h
/-- From W to W' only blocks below n₀, those that D names, and new ones have turned; D' names some of these. -/
structure Tch (n₀ : Nat) (D D' : Nat → Prop) (W W' : World) : Prop where
  size : W.heap.size ≤ W'.heap.size
  same : ∀ b, n₀ ≤ b → b < W.heap.size → ¬ D b → W'.heap[b]? = W.heap[b]?
  own : ∀ b, D' b → D b ∨ (W.heap.size ≤ b ∧ b < W'.heap.size)
  keep : ∀ b, D b → D' b

theorem Tch.trans {n₀ : Nat} {D D' D'' : Nat → Prop} {W W' W'' : World} (h : Tch n₀ D D' W W') (k : Tch n₀ D' D'' W' W'') : Tch n₀ D D'' W W'' :=
  ⟨Nat.le_trans h.size k.size, fun b hb hlt hd => (k.same b hb (Nat.lt_of_lt_of_le hlt h.size) (fun hd' => (h.own b hd').elim hd (fun h' => by omega))).trans (h.same b hb hlt hd),
   fun b hb => (k.own b hb).elim (fun h' => (h.own b h').imp id (fun h2 => ⟨h2.1, Nat.lt_of_lt_of_le h2.2 k.size⟩)) (fun h' => .inr ⟨Nat.le_trans h.size h'.1, h'.2⟩), fun b hb => k.keep b (h.keep b hb)⟩
end Go.Proofs.Ytcjhgefkbnbmnaa

namespace Go.Proofs.Ytcjhgefkbnbmnaa.RM
set_option linter.unusedVariables false

def isPt (r : Int) : Bool := decide (0 ≤ r ∧ r < 55296 ∨ 57343 < r ∧ r ≤ 1114111)

def encB (r : Int) : List Int :=
  if r < 128 then [r]
  else if r < 2048 then [192 + r / 64, 128 + r % 64]
  else if r < 65536 then [224 + r / 4096, 128 + r / 64 % 64, 128 + r % 64]
  else [240 + r / 262144, 128 + r / 4096 % 64, 128 + r / 64 % 64, 128 + r % 64]

/-- The bytes of the code point r stand at the place p of l. -/
def Dec (l : List Int) (p : Nat) (r : Int) : Prop := isPt r = true ∧ ∃ t, l.drop p = encB r ++ t

open Classical in
/-- The code point at a place (0: none), and how many bytes it has (0: none). -/
noncomputable def decR (l : List Int) (p : Nat) : Int := if h : ∃ r, Dec l p r then h.choose else 0
open Classical in
noncomputable def decN (l : List Int) (p : Nat) : Nat := if h : ∃ r, Dec l p r then (encB h.choose).length else 0

/-! ### going over a text -/
noncomputable def wk (l : List Int) : Nat → Nat → List Int → List Int × Nat
  | 0, p, acc => (acc, p)
  | f + 1, p, acc => if decN l p = 0 then (acc, p) else wk l f (p + decN l p) (acc ++ [decR l p])

noncomputable def run (l : List Int) : List Int × Nat := wk l l.length 0 []

/-- the place p is met behind the code points acc -/
def Met (l : List Int) (p : Nat) (acc : List Int) : Prop := ∃ f, run l = wk l f p acc ∧ l.length ≤ p + f ∧ p ≤ l.length ∧ acc.length ≤ p

/-- the bytes of code points, one behind the other -/
def flat : List Int → List Int
  | [] => []
  | r :: rs => encB r ++ flat rs

/-! ### line feeds -/
/-- the document's line and column behind code points -/
def scan : Int → Int → List Int → Int × Int
  | a, b, [] => (a, b)
  | a, b, r :: rs => if r = 10 then scan (a + 1) 1 rs else scan a (b + 1) rs

/-- 'begin' is the place behind the last line feed of l. -/
def Begins (l : List Int) (g : Nat) : Prop := (g = 0 ∧ (10 : Int) ∉ l) ∨ ∃ a b, l = a ++ 10 :: b ∧ (10 : Int) ∉ b ∧ g = a.length + 1

/-! ### the first byte -/
def leadN (c : Int) : Nat := if c < 128 then 1 else if c < 192 then 0 else if c < 224 then 2 else if c < 240 then 3 else if c < 248 then 4 else 0
def leadB (c : Int) : Int := if c < 128 then c else if c < 192 then 0 else if c < 224 then c % 32 else if c < 240 then c % 16 else if c < 248 then c % 8 else 0
def leadL (c : Int) : Int := if c < 128 then 0 else if c < 192 then 0 else if c < 224 then 128 else if c < 240 then 2048 else if c < 248 then 65536 else 0

/-- the bits of k bytes from q on behind r -/
def fld (l : List Int) (q : Nat) (r : Int) : Nat → Int
  | 0 => r
  | k + 1 => fld l q r k * 64 + l.getD (q + k) 0 % 64

/-! ### the document's way: try 1 to 4 bytes -/
def base : Nat → Int
  | 2 => 192
  | 3 => 224
  | 4 => 240
  | _ => 0
def cnd (l : List Int) (p : Nat) (r0 : Int) : Nat → Int
  | 0 => r0
  | k + 1 => 64 * cnd l p r0 k + l.getD (p + (k + 1)) 0 - 128
def cv (l : List Int) (p n : Nat) : Int := cnd l p (l.getD p 0 - base n) (n - 1)

end Go.Proofs.Ytcjhgefkbnbmnaa.RM

namespace Go.Proofs.Ytcjhgefkbnbmnaa.LM
open RM
set_option linter.unusedVariables false

/-! ### bytes -/
/-- The sort of a byte: 1 blank, 2 hash, 3 mark, 4 digit, 5 small, 6 great, 7 underscore, 0 other. -/
def sortV (c : Int) : Int :=
  if c = 32 ∨ c = 9 ∨ c = 13 ∨ c = 10 then 1 else if c = 35 then 2 else if c = 95 then 7
  else if c = 40 ∨ c = 41 ∨ c = 123 ∨ c = 125 ∨ c = 60 ∨ c = 62 ∨ c = 61 ∨ c = 44 ∨ c = 58 ∨ c = 59 ∨ c = 124 ∨ c = 46 ∨ c = 92 ∨ c = 64 ∨ c = 94 ∨ c = 63 ∨ c = 43 ∨ c = 45 ∨ c = 42 ∨ c = 47 ∨ c = 37 then 3
  else if 48 ≤ c ∧ c ≤ 57 then 4 else if 97 ≤ c ∧ c ≤ 122 then 5 else if 65 ≤ c ∧ c ≤ 90 then 6 else 0

/-- The document's kinds: 1 small letter, 2 great one, 3 digit, 4 underscore, 0 none of these. -/
def kindV (c : Int) : Int := if 97 ≤ c ∧ c ≤ 122 then 1 else if 65 ≤ c ∧ c ≤ 90 then 2 else if 48 ≤ c ∧ c ≤ 57 then 3 else if c = 95 then 4 else 0

theorem sort_bd (c : Int) : 0 ≤ sortV c ∧ sortV c ≤ 7 := by
  unfold sortV
  repeat' split
  all_goals omega
theorem kind_bd (c : Int) : 0 ≤ kindV c ∧ kindV c ≤ 4 := by
  unfold kindV
  repeat' split
  all_goals omega
theorem kind_of_sort (c : Int) : kindV c = if sortV c = 5 then 1 else if sortV c = 6 then 2 else if sortV c = 4 then 3 else if sortV c = 7 then 4 else 0 := by
  unfold sortV kindV
  repeat' split
  all_goals omega
/-- Of a run? -/
def inRun (c : Int) : Bool := decide (4 ≤ sortV c)
/-! ### words -/
def su (c : UInt8) : Int := sortV (c.toNat : Int)
def nameC (c : UInt8) : Bool := su c == 5 || su c == 4 || su c == 7
/-- Has it a name's bytes? -/
def nameL (l : List UInt8) : Bool := match l with
  | [] => false
  | c :: _ => su c == 5 && l.all nameC
def kwL : List (List UInt8) := [[102, 117, 110], [114, 101, 99], [108, 101, 116], [105, 110], [105, 102], [116, 104, 101, 110], [101, 108, 115, 101], [99, 97, 115, 101], [111, 102], [101, 110, 100], [116, 114, 117, 101], [102, 97, 108, 115, 101], [100, 101, 102], [73, 110, 116], [66, 111, 111, 108]]
/-- A word of the language? -/
def kw (l : List UInt8) : Bool := kwL.any (l == ·)
/-- A name? -/
def wordL (l : List UInt8) : Bool := decide (l.length ≤ 32) && nameL l && !kw l

/-- The document's signs. -/
def signL : List (List UInt8) := [[61, 61], [61, 62], [58, 61], [45, 62], [40], [41], [123], [125], [60], [62], [61], [44], [58], [59], [124], [46], [92], [64], [94], [63], [43], [45], [42], [47], [37]]

/-! ### numbers -/
def digL (l : List UInt8) : Bool := l.all fun c => su c == 4
/-- Digits alone, without noughts ahead. -/
def numB (l : List UInt8) : Bool := digL l && !(decide (1 < l.length) && l.head? == some 48)
def numL (l : List UInt8) : Nat := l.foldl (fun n c => 10 * n + (c.toNat - 48)) 0
/-- A number's value and its code. -/
def numT (l : List UInt8) : Int × Int := if numB l = false then (0, 4) else if 9223372036854775807 < numL l then (0, 7) else ((numL l : Int), 0)

end Go.Proofs.Ytcjhgefkbnbmnaa.LM

namespace Go.Proofs.Ytcjhgefkbnbmnaa
open Go.RowKit LM
set_option linter.unusedVariables false

/-- Types (1), rows (2), neither (0). -/
def sortO (op : Int) : Nat := if 1 ≤ op ∧ op ≤ 7 then 1 else if 8 ≤ op ∧ op ≤ 11 then 2 else 0
/-- Which Kids an Op has. -/
def kidsL (op : Int) : Option (List Nat) :=
  if op = 1 ∨ op = 2 ∨ op = 3 ∨ op = 7 ∨ op = 8 ∨ op = 9 ∨ op = 10 then some []
  else if op = 4 then some [1, 1] else if op = 5 ∨ op = 6 then some [2] else if op = 11 then some [1, 2] else none

/-- What a part has besides its Kids is what its Op asks for. -/
def headB (h : Hd) : Bool :=
  (if h.op = 11 then wordL h.name.toList else h.name.toList.isEmpty) && decide (0 ≤ h.n) && (decide (h.op = 7) || decide (h.op = 10) || decide (h.n = 0))

namespace Fo
def sorts : Fo → List Nat
  | nil => []
  | cons h _ r => sortO h.op :: r.sorts
/-- The parts' own answers: shapes. -/
def shapes : Fo → List Nat → Bool
  | nil, [] => true
  | nil, _ :: _ => false
  | cons _ _ _, [] => false
  | cons h k r, s :: ss => (match kidsL h.op with | some ks => decide (sortO h.op = s) && headB h && k.shapes ks | Option.none => false) && r.shapes ss
end Fo

/-- Is a part what its Op asks for? -/
def fitsB (h : Hd) (k : Fo) : Bool := match kidsL h.op with | some ks => headB h && decide (k.sorts = ks) | Option.none => false
def fitsAll (l : List (Hd × Fo)) : Bool := l.all fun p => fitsB p.1 p.2

theorem kidsL_sort {op : Int} {ks : List Nat} (h : kidsL op = some ks) : sortO op = 1 ∨ sortO op = 2 := by
  unfold kidsL at h; unfold sortO
  by_cases h1 : 1 ≤ op ∧ op ≤ 7
  · simp [h1]
  · by_cases h2 : 8 ≤ op ∧ op ≤ 11
    · simp [h1, h2]
    · exfalso
      rw [if_neg (by omega), if_neg (by omega), if_neg (by omega), if_neg (by omega)] at h
      cases h

theorem Fo.shapes_eq (f : Fo) : ∀ ss : List Nat, (∀ s ∈ ss, s = 1 ∨ s = 2) → f.shapes ss = (decide (f.sorts = ss) && fitsAll f.flat) := by
  induction f with
  | nil => intro ss _; cases ss <;> simp [Fo.shapes, Fo.sorts, Fo.flat, fitsAll]
  | cons h k r hk hr =>
    intro ss hss
    cases ss with
    | nil => simp [Fo.shapes, Fo.sorts]
    | cons s ss =>
      have hs := hss s (by simp)
      have hss' : ∀ x ∈ ss, x = 1 ∨ x = 2 := fun x hx => hss x (by simp [hx])
      simp only [Fo.shapes, Fo.sorts, Fo.flat, fitsAll, List.all_cons, List.all_append]
      rw [hr ss hss']
      cases hkl : kidsL h.op with
      | none => simp [fitsB, hkl]
      | some ks =>
        have hks : ∀ x ∈ ks, x = 1 ∨ x = 2 := by
          intro x hx
          unfold kidsL at hkl
          split at hkl
          · cases hkl; cases hx
          · split at hkl
            · cases hkl; simp at hx; omega
            · split at hkl
              · cases hkl; simp at hx; omega
              · split at hkl
                · cases hkl; simp at hx; omega
                · cases hkl
        have e1 : fitsB h k = (headB h && decide (k.sorts = ks)) := by simp only [fitsB, hkl]
        simp only
        rw [hk ks hks, e1]
        simp only [fitsAll, List.cons.injEq, Bool.decide_and]
        generalize (k.flat.all fun p => fitsB p.1 p.2) = x1
        generalize (r.flat.all fun p => fitsB p.1 p.2) = x2
        generalize decide (sortO h.op = s) = x3
        generalize decide (k.sorts = ks) = x4
        generalize decide (r.sorts = ss) = x5
        cases x1 <;> cases x2 <;> cases x3 <;> cases x4 <;> cases x5 <;> cases headB h <;> rfl

/-! ### Variables of both sorts -/
theorem snoc_ind {α : Type} {P : List α → Prop} (h0 : P []) (hs : ∀ l x, P l → P (l ++ [x])) (l : List α) : P l := by
  rw [← List.reverse_reverse l]
  generalize l.reverse = m
  induction m with
  | nil => exact h0
  | cons x m ih => rw [List.reverse_cons]; exact hs _ _ ih
/-- No number is that of both sorts. -/
def onceB (l : List (Hd × Fo)) : Bool := l.all fun a => l.all fun b => !(decide (a.1.op = 7) && decide (b.1.op = 10) && decide (a.1.n = b.1.n))
def isVarB (op : Int) : Bool := decide (op = 7) || decide (op = 10)
/-- The Op with which a number came last. -/
def opsOf (l : List (Hd × Fo)) (n : Int) : Option Int := l.foldl (fun o p => if isVarB p.1.op ∧ p.1.n = n then some p.1.op else o) Option.none
/-- Each variable has the Op with which its number came. -/
def soundFrom : List (Hd × Fo) → List (Hd × Fo) → Bool
  | _, [] => true
  | pre, p :: r => fitsB p.1 p.2 && (!isVarB p.1.op || (match opsOf pre p.1.n with | some o => decide (o = p.1.op) | Option.none => true)) && soundFrom (pre ++ [p]) r

theorem opsOf_snoc (l : List (Hd × Fo)) (p : Hd × Fo) (n : Int) : opsOf (l ++ [p]) n = if isVarB p.1.op ∧ p.1.n = n then some p.1.op else opsOf l n := by
  simp [opsOf, List.foldl_append]

/-- While nothing has failed: the Op kept of a number is that of each variable of that number. -/
theorem opsOf_all {l : List (Hd × Fo)} (hl : onceB l = true) (n : Int) : ∀ p ∈ l, isVarB p.1.op = true → p.1.n = n → opsOf l n = some p.1.op := by
  have key : ∀ (m : List (Hd × Fo)), (∀ x ∈ m, x ∈ l) → (∀ p ∈ m, isVarB p.1.op = true → p.1.n = n → opsOf m n = some p.1.op) := by
    intro m
    refine snoc_ind (P := fun m => (∀ x ∈ m, x ∈ l) → (∀ p ∈ m, isVarB p.1.op = true → p.1.n = n → opsOf m n = some p.1.op)) ?_ ?_ m
    · intro _ p hp; cases hp
    · intro m q ih hm p hp hv hn
      rw [opsOf_snoc]
      by_cases hq : isVarB q.1.op = true ∧ q.1.n = n
      · rw [if_pos hq]
        have hpl := hm p hp
        have hql := hm q (by simp)
        have h1 := (List.all_eq_true.1 ((List.all_eq_true.1 hl) p hpl)) q hql
        have h2 := (List.all_eq_true.1 ((List.all_eq_true.1 hl) q hql)) p hpl
        obtain ⟨hq1, hq2⟩ := hq
        simp [isVarB] at hv hq1
        simp at h1 h2
        rcases hv with hv | hv <;> rcases hq1 with hq1 | hq1 <;> rw [hv, hq1] <;> exfalso
        · rcases h1 with (h1 | h1) | h1
          · exact h1 hv
          · exact h1 hq1
          · exact h1 (by rw [hn, hq2])
        · rcases h2 with (h2 | h2) | h2
          · exact h2 hq1
          · exact h2 hv
          · exact h2 (by rw [hn, hq2])
      · rw [if_neg hq]
        have hpm : p ∈ m := by
          rcases List.mem_append.1 hp with h | h
          · exact h
          · simp at h; subst h; exact absurd ⟨hv, hn⟩ hq
        exact ih (fun x hx => hm x (by simp [hx])) p hpm hv hn
  exact key l (fun x hx => hx)
theorem opsOf_none {l : List (Hd × Fo)} {n : Int} (h : ∀ p ∈ l, isVarB p.1.op = true → p.1.n ≠ n) : opsOf l n = Option.none := by
  revert h
  refine snoc_ind (P := fun l => (∀ p ∈ l, isVarB p.1.op = true → p.1.n ≠ n) → opsOf l n = Option.none) (fun _ => rfl) ?_ l
  intro m q ih h
  rw [opsOf_snoc, if_neg (fun hc => h q (by simp) hc.1 hc.2)]
  exact ih fun p hp => h p (by simp [hp])

theorem onceB_snoc (l : List (Hd × Fo)) (p : Hd × Fo) (hl : onceB l = true) :
    onceB (l ++ [p]) = (!isVarB p.1.op || (match opsOf l p.1.n with | some o => decide (o = p.1.op) | Option.none => true)) := by
  rw [Bool.eq_iff_iff]
  constructor
  · intro h
    by_cases hv : isVarB p.1.op = true
    · cases ho : opsOf l p.1.n with
      | none => simp
      | some o =>
        simp [hv]
        have := opsOf_all h p.1.n p (by simp) hv rfl
        by_cases hx : ∃ q ∈ l, isVarB q.1.op = true ∧ q.1.n = p.1.n
        · obtain ⟨q, hq, hq1, hq2⟩ := hx
          have e1 := opsOf_all hl p.1.n q hq hq1 hq2
          have e2 := opsOf_all h p.1.n q (by simp [hq]) hq1 hq2
          rw [e1] at ho; rw [e2] at this
          have e3 := Option.some.inj ho; have e4 := Option.some.inj this
          rw [← e3, ← e4]
        · rw [opsOf_none (fun q hq h1 h2 => hx ⟨q, hq, h1, h2⟩)] at ho; cases ho
    · simp [hv]
  · intro h
    have hp : ∀ q ∈ l, isVarB q.1.op = true → isVarB p.1.op = true → q.1.n = p.1.n → q.1.op = p.1.op := by
      intro q hq h1 h2 h3
      rw [opsOf_all hl p.1.n q hq h1 h3] at h
      simpa [h2] using h
    have hl2 := List.all_eq_true.1 hl
    refine List.all_eq_true.2 fun a ha => List.all_eq_true.2 fun b hb => ?_
    rcases List.mem_append.1 ha with ha | ha <;> rcases List.mem_append.1 hb with hb | hb
    · exact (List.all_eq_true.1 (hl2 a ha)) b hb
    · simp at hb; subst hb
      rw [Bool.not_eq_true', Bool.eq_false_iff]
      intro hc
      simp only [Bool.and_eq_true, decide_eq_true_eq] at hc
      obtain ⟨⟨h1, h2⟩, h3⟩ := hc
      have := hp a (by assumption) (by simp [isVarB, h1]) (by simp [isVarB, h2]) h3
      omega
    · simp at ha; subst ha
      rw [Bool.not_eq_true', Bool.eq_false_iff]
      intro hc
      simp only [Bool.and_eq_true, decide_eq_true_eq] at hc
      obtain ⟨⟨h1, h2⟩, h3⟩ := hc
      have := hp b (by assumption) (by simp [isVarB, h2]) (by simp [isVarB, h1]) h3.symm
      omega
    · simp at ha hb; subst ha; subst hb
      rw [Bool.not_eq_true', Bool.eq_false_iff]
      intro hc
      simp only [Bool.and_eq_true, decide_eq_true_eq] at hc
      omega

theorem onceB_pre2 {l m : List (Hd × Fo)} (h : onceB (l ++ m) = true) : onceB l = true := by
  have h2 := List.all_eq_true.1 h
  exact List.all_eq_true.2 fun a ha => List.all_eq_true.2 fun b hb => (List.all_eq_true.1 (h2 a (by simp [ha]))) b (by simp [hb])

theorem soundFrom_eq (r : List (Hd × Fo)) : ∀ pre : List (Hd × Fo), onceB pre = true → soundFrom pre r = (fitsAll r && onceB (pre ++ r)) := by
  induction r with
  | nil => intro pre h; simp [soundFrom, fitsAll, h]
  | cons p r ih =>
    intro pre h
    have e := onceB_snoc pre p h
    simp only [soundFrom]
    rw [← e]
    by_cases h2 : onceB (pre ++ [p]) = true
    · rw [ih _ h2, h2, List.append_assoc]; simp [fitsAll]; cases fitsB p.1 p.2 <;> simp
    · have h3 : onceB (pre ++ p :: r) = false := by
        rw [Bool.eq_false_iff]; intro hc
        apply h2
        have : pre ++ p :: r = (pre ++ [p]) ++ r := by simp
        rw [this] at hc
        exact onceB_pre2 hc
      rw [Bool.not_eq_true] at h2
      rw [h2, h3]; simp

/-- Is a tree right, of the sort s? -/
def rightB (h : Hd) (k : Fo) (s : Nat) : Bool := (Fo.cons h k .nil).shapes [s] && onceB (Fo.cons h k .nil).flat
theorem rightB_eq (h : Hd) (k : Fo) (s : Nat) (hs : s = 1 ∨ s = 2) : rightB h k s = (decide (sortO h.op = s) && soundFrom [] (Fo.cons h k .nil).flat) := by
  unfold rightB
  rw [Fo.shapes_eq _ [s] (by intro x hx; simp at hx; omega), soundFrom_eq _ [] rfl]
  simp [Fo.sorts]
  cases decide (sortO h.op = s) <;> simp

end Go.Proofs.Ytcjhgefkbnbmnaa

namespace Go.Proofs.Ytcjhgefkbnbmnaa
open Go.RowKit RM
set_option linter.unusedVariables false

theorem ret_bool {a b : Bool} (h : a = b) : Ending.returned (.bool a) = .returned (.bool b) := by rw [h]
theorem ret_int {k : IntKind} {a b : Int} (h : a = b) : Ending.returned (.int k a) = .returned (.int k b) := by rw [h]
/-- The value '.slice a l.length cap' reads in w as the list l. -/
structure Sl (k : IntKind) (w : World) (a : Option Addr) (cap : Nat) (l : List Int) : Prop where
  le : l.length ≤ cap
  mx : cap ≤ 9223372036854775807
  rd : l = [] ∨ ∃ b off, a = some ⟨b, off, none⟩ ∧ b < w.heap.size ∧ ∀ i, i < l.length → w.cell? ⟨b, off + i, none⟩ = some (.int k (l.getD i 0))
  nil : a = none → cap = 0

/-- All numbers of l are bytes. -/
def Byt (l : List Int) : Prop := ∀ i, i < l.length → 0 ≤ l.getD i 0 ∧ l.getD i 0 ≤ 255

/-- What Next answers at a place within l. -/
noncomputable def nextV (l : List Int) (p : Nat) : Value := .tuple #[.int .i32 (decR l p), .int .i64 (decN l p), .int .u8 (if decN l p = 0 then 3 else 0)]

end Go.Proofs.Ytcjhgefkbnbmnaa

namespace Go.Proofs.Ytcjhgefkbnbmnaa
open Go.RowKit RM
set_option linter.unusedVariables false

/-- A new slice that reads as l. -/
def NewSl (k : IntKind) (l : List Int) (w : World) (e : Ending) (w' : World) : Prop :=
  ∃ a cap, e = .returned (.slice a l.length cap) ∧ Sl k w' a cap l ∧ Below w.heap.size w w'

end Go.Proofs.Ytcjhgefkbnbmnaa

namespace Go.Proofs.Ytcjhgefkbnbmnaa
open Go.RowKit RM
set_option linter.unusedVariables false

/-- What At answers. -/
noncomputable def atV (l : List Int) (p : Nat) : Value := .tuple #[.int .i64 (decR l p), .int .i64 (decN l p)]

end Go.Proofs.Ytcjhgefkbnbmnaa

namespace Go.Proofs.Ytcjhgefkbnbmnaa
open Go.RowKit RM
set_option linter.unusedVariables false

/-- The first wrong place, -1: none. -/
noncomputable def wrongOf (l : List Int) : Int := if (run l).2 < l.length then (run l).2 else -1

end Go.Proofs.Ytcjhgefkbnbmnaa

namespace Go.Proofs.Ytcjhgefkbnbmnaa
open Go.RowKit RM LM
set_option linter.unusedVariables false

set_option maxRecDepth 100000 in
theorem sortOf_any (c : Int) (w : World) (h1 : 0 ≤ c) (h2 : c ≤ 255) :
    Calls Try.prog 148 #[.int .u8 c] w fun e w' => e = .returned (.int .u8 (sortV c)) ∧ w = w' := by
  go_enter Try.func148, Try.ntmps148
  go_wp2
  all_goals (go_ret; refine ⟨ret_int ?_, rfl⟩; unfold sortV; simp at *)
  all_goals omega

theorem byte_bd (c : UInt8) : 0 ≤ (c.toNat : Int) ∧ (c.toNat : Int) ≤ 255 := by
  have := c.toNat_lt; omega

theorem sortOf_byte (c : UInt8) (w : World) :
    Calls Try.prog 148 #[.int .u8 (c.toNat : Int)] w fun e w' => e = .returned (.int .u8 (su c)) ∧ w = w' :=
  sortOf_any _ w (byte_bd c).1 (byte_bd c).2

set_option maxRecDepth 100000 in
theorem kind_any (c : Int) (w : World) (h1 : 0 ≤ c) (h2 : c ≤ 255) :
    Calls Try.prog 127 #[.int .u8 c] w fun e w' => e = .returned (.int .i64 (kindV c)) ∧ w = w' := by
  go_enter Try.func127, Try.ntmps127
  go_wp2
  all_goals (go_ret; refine ⟨ret_int ?_, rfl⟩; unfold kindV; try simp at *)
  all_goals ((repeat' split) <;> omega)
def ku (c : UInt8) : Int := kindV (c.toNat : Int)
theorem kind_byte (c : UInt8) (w : World) :
    Calls Try.prog 127 #[.int .u8 (c.toNat : Int)] w fun e w' => e = .returned (.int .i64 (ku c)) ∧ w = w' :=
  kind_any _ w (byte_bd c).1 (byte_bd c).2

set_option maxRecDepth 100000 in
theorem isKeyword_any (s : ByteArray) (w : World) :
    Calls Try.prog 132 #[.string s] w fun e w' => e = .returned (.bool (kw s.toList)) ∧ w = w' := by
  go_enter Try.func132, Try.ntmps132
  go_wp2
  all_goals (go_ret; refine ⟨ret_bool ?_, rfl⟩; simp_all [kw, kwL])
end Go.Proofs.Ytcjhgefkbnbmnaa

namespace Go.Proofs.Ytcjhgefkbnbmnaa
open Go.RowKit RM LM
set_option linter.unusedVariables false

theorem data_get (s : ByteArray) (k : Nat) (h : k < s.size) : s.toList[k]? = some s[k] := by
  rw [ByteArray.toList_eq, Array.getElem?_toList]
  exact Array.getElem?_eq_getElem h
theorem data_len (s : ByteArray) : s.toList.length = s.size := by rw [ByteArray.toList_eq]; rfl
theorem data_all {s : ByteArray} {p : UInt8 → Bool} (h : ∀ j (hj : j < s.size), p s[j] = true) : s.toList.all p = true := by
  rw [List.all_eq_true]
  intro x hx
  obtain ⟨i, e⟩ := List.mem_iff_getElem?.1 hx
  have hi := (List.getElem?_eq_some_iff.1 e).1
  rw [data_len] at hi
  rw [data_get s i hi] at e
  cases e
  exact h i hi
theorem data_not {s : ByteArray} {p : UInt8 → Bool} {j : Nat} (hj : j < s.size) (h : p s[j] = false) : s.toList.all p = false := by
  rw [List.all_eq_false]
  exact ⟨s[j], List.mem_of_getElem? (data_get s j hj), by simp [h]⟩
theorem data_head {s : ByteArray} (h : 0 < s.size) : ∃ r, s.toList = s[0] :: r := by
  have := data_get s 0 h
  cases hl : s.toList with
  | nil => rw [hl] at this; simp at this
  | cons c r => rw [hl] at this; simp at this; exact ⟨r, by rw [this]⟩
theorem data_nil {s : ByteArray} (h : s.size = 0) : s.toList = [] := List.length_eq_zero_iff.1 (by rw [data_len]; exact h)
theorem nameL_head {s : ByteArray} (h : 0 < s.size) : nameL s.toList = (su s[0] == 5 && s.toList.all nameC) := by
  obtain ⟨r, e⟩ := data_head h
  rw [e]; rfl

theorem hasName_any (s : ByteArray) (w : World) (hs : s.size ≤ 9223372036854775807) :
    Calls Try.prog 131 #[.string s] w fun e w' => e = .returned (.bool (nameL s.toList)) ∧ w = w' := by
  by_cases h0 : 0 < s.size
  · have he : (s.toList == []) = false := by
      obtain ⟨r, e⟩ := data_head h0
      rw [e]; rfl
    have HE := Lib.hid (nameL_head h0)
    by_cases h1 : su s[0] = 5
    · have h1' : (su s[0] != 5) = false := by simp [h1]
      have HA : Hid (nameL s.toList = s.toList.all nameC) := by rw [HE.out, h1]; rfl
      clear h1
      go_enter Try.func131, Try.ntmps131
      go_wp2_with (go_at_call 148; refine (sortOf_byte _ _).mono ?_; rintro e w' ⟨rfl, rfl⟩)
      go_loop [3, 14] (fun _ i => ∃ k : Nat, k ≤ s.size ∧ i = .int .i64 k ∧ Hid (∀ j (hj : j < s.size), j < k → nameC s[j] = true)) (fun _ i => s.size - (intOf i).toNat)
      case atStart => exact ⟨0, by omega, rfl, fun j hj hk => by omega⟩
      case round =>
        obtain ⟨k, hk, rfl, hgood⟩ := hrel
        by_cases hlt : k < s.size
        · by_cases hn : nameC s[k] = true
          · have HN := Lib.hid hn
            have hb := sort_bd (s[k].toNat : Int)
            have hn' : su s[k] = 5 ∨ su s[k] = 4 ∨ su s[k] = 7 := by unfold nameC at hn; simp at hn; omega
            clear hn
            have HC := Lib.hid (sortOf_byte s[k] w)
            generalize hx : su s[k] = x at *
            have HX := Lib.hid hx
            clear hx
            rcases hn' with rfl | rfl | rfl
            all_goals
              go_wp2_with (go_at_call 148; refine HC.out.mono ?_; rintro e w' ⟨rfl, rfl⟩)
              go_round
              case rel =>
                refine ⟨k + 1, by omega, by go_num, fun j hj hjk => ?_⟩
                by_cases e : j < k
                · exact hgood.out j hj e
                · obtain rfl : j = k := by omega
                  exact HN.out
              case measure => simp [intOf]; omega
          · have hn' : (su s[k] == 5) = false ∧ (su s[k] == 4) = false ∧ (su s[k] == 7) = false := by
              unfold nameC at hn; simp at hn; simp; omega
            obtain ⟨e1, e2, e3⟩ := hn'
            have HF : Hid (nameL s.toList = false) := by rw [HA.out]; exact data_not hlt (by simpa using hn)
            clear hn
            have HC := Lib.hid (sortOf_byte s[k] w)
            generalize hx : su s[k] = x at *
            clear hx
            go_wp2_with (go_at_call 148; refine HC.out.mono ?_; rintro e w' ⟨rfl, rfl⟩)
            go_ret
            exact ⟨ret_bool HF.out.symm, rfl⟩
        · have HF : Hid (nameL s.toList = true) := by rw [HA.out]; exact data_all fun j hj => hgood.out j hj (by omega)
          go_wp2_with fail
          go_ret
          exact ⟨ret_bool HF.out.symm, rfl⟩
    · have h1' : (su s[0] != 5) = true := by simp [h1]
      have HF := Lib.hid (show nameL s.toList = false by rw [HE.out]; simp [h1])
      clear h1
      go_enter Try.func131, Try.ntmps131
      go_wp2_with (go_at_call 148; refine (sortOf_byte _ _).mono ?_; rintro e w' ⟨rfl, rfl⟩)
      go_ret
      exact ⟨ret_bool HF.out.symm, rfl⟩
  · have he := data_nil (s := s) (by omega)
    have he' : (s.toList == []) = true := by rw [he]; rfl
    have HF : Hid (nameL s.toList = false) := by rw [he]; rfl
    clear he
    go_enter Try.func131, Try.ntmps131
    go_wp2
    go_ret
    exact ⟨ret_bool HF.out.symm, rfl⟩

theorem isWord_any (s : ByteArray) (w : World) (hs : s.size ≤ 9223372036854775807) :
    Calls Try.prog 118 #[.string s] w fun e w' => e = .returned (.bool (wordL s.toList)) ∧ w = w' := by
  have hw : wordL s.toList = (decide (s.size ≤ 32) && nameL s.toList && !kw s.toList) := by unfold wordL; rw [data_len]
  have HN := Lib.hid (hasName_any s w hs)
  have HK := Lib.hid (isKeyword_any s w)
  have HW := Lib.hid hw
  clear hw
  generalize nameL s.toList = n at *
  generalize kw s.toList = k at *
  by_cases h32 : s.size ≤ 32
  · have h32' : decide (s.size ≤ 32) = true := by simpa using h32
    cases n
    all_goals
      go_enter Try.func118, Try.ntmps118
      go_wp2_with (first | (go_at_call 131; refine HN.out.mono ?_; rintro e w' ⟨rfl, rfl⟩) | (go_at_call 132; refine HK.out.mono ?_; rintro e w' ⟨rfl, rfl⟩))
      go_ret
      refine ⟨ret_bool ?_, rfl⟩
      rw [HW.out, h32']
      simp
  · go_enter Try.func118, Try.ntmps118
    go_wp2_with fail
    go_ret
    refine ⟨ret_bool ?_, rfl⟩
    rw [HW.out]
    simp [h32]

/-! ### a slice that reads as cells -/
/-- The value '.slice a n cap', its elements of 'size' cells, reads in w as the cells xs. -/
structure SlV (w : World) (size : Nat) (a : Option Addr) (n cap : Nat) (xs : List Value) : Prop where
  le : n ≤ cap
  mx : cap ≤ 9223372036854775807
  len : xs.length = n * size
  rd : xs = [] ∨ ∃ b off, a = some ⟨b, off, none⟩ ∧ b < w.heap.size ∧ ∀ (j : Nat) (u : Value), xs[j]? = some u → w.cell? ⟨b, off + j, none⟩ = some u
  nil : a = none → cap = 0

theorem SlV.below {w w' : World} {size : Nat} {a : Option Addr} {n cap : Nat} {xs : List Value} (h : SlV w size a n cap xs) (hb : Below w.heap.size w w') : SlV w' size a n cap xs := by
  refine ⟨h.le, h.mx, h.len, ?_, h.nil⟩
  rcases h.rd with h1 | ⟨b, off, h1, h2, h3⟩
  · exact .inl h1
  · refine .inr ⟨b, off, h1, Nat.lt_of_lt_of_le h2 hb.size, fun j u hu => ?_⟩
    rw [hb.cell (p := ⟨b, off + j, none⟩) h2]
    exact h3 j u hu

theorem slV_alloc (w : World) (T : TypeId) {size n : Nat} {xs : List Value} (hm : n ≤ 9223372036854775807) (hl : xs.length = n * size) :
    SlV (w.alloc (.cells xs.toArray T)) size (some ⟨w.heap.size, 0, none⟩) n n xs := by
  refine ⟨Nat.le_refl _, hm, hl, .inr ⟨_, 0, rfl, by simp, fun j u hu => ?_⟩, fun h => by cases h⟩
  rw [World.cell?_alloc_at _ _ _ _ rfl, Nat.zero_add, List.getElem?_toArray]
  exact hu

end Go.Proofs.Ytcjhgefkbnbmnaa

namespace Go.Proofs.Ytcjhgefkbnbmnaa
open Go.RowKit RM LM
set_option linter.unusedVariables false

def strV (l : List UInt8) : Value := .string ⟨l.toArray⟩
/-- A slice of texts. -/
def Strs (w : World) (a : Option Addr) (cap : Nat) (ls : List (List UInt8)) : Prop := SlV w 1 a ls.length cap (ls.map strV)

theorem Strs.at_ {w : World} {a : Option Addr} {cap k : Nat} {ls : List (List UInt8)} (h : Strs w a cap ls) (hk : k < ls.length) :
    ∃ b off, a = some ⟨b, off, none⟩ ∧ b < w.heap.size ∧ w.cell? ⟨b, off + k, none⟩ = some (strV ls[k]) := by
  rcases h.rd with h0 | ⟨b, off, h1, h2, h3⟩
  · have := congrArg List.length h0
    simp at this
    subst this
    simp at hk
  · exact ⟨b, off, h1, h2, h3 k _ (by rw [List.getElem?_map, List.getElem?_eq_getElem hk]; rfl)⟩

set_option maxRecDepth 100000 in
theorem in_any (a : Option Addr) (cap : Nat) (ls : List (List UInt8)) (s : ByteArray) (w : World) (h : Strs w a cap ls) (hl : ls.length ≤ 1000) :
    Calls Try.prog 113 #[.slice a ls.length cap, .string s] w fun e w' => e = .returned (.bool (ls.any (s.toList == ·))) ∧ w = w' := by
  have hcap := h.le
  have hmax := h.mx
  have HS := Lib.hid h
  clear h
  go_enter Try.func113, Try.ntmps113
  go_wp2
  go_loop [5] (fun i => ∃ k : Nat, k ≤ ls.length ∧ i = .int .i64 k ∧ Hid (∀ j (hj : j < ls.length), j < k → (s.toList == ls[j]) = false)) (fun i => ls.length - (intOf i).toNat)
  case atStart => exact ⟨0, by omega, rfl, fun j hj hk => by omega⟩
  case round =>
    obtain ⟨k, hk, rfl, hgood⟩ := hrel
    by_cases hlt : k < ls.length
    · obtain ⟨b, off, rfl, hb, hc⟩ := HS.out.at_ hlt
      unfold strV at hc
      by_cases he : (s.toList == ls[k]) = true
      · have he' : (ls[k] == s.toList) = true := by simp at he ⊢; exact he.symm
        have HF := Lib.hid (show ls.any (s.toList == ·) = true from List.any_eq_true.2 ⟨ls[k], List.getElem_mem hlt, he⟩)
        clear he
        go_wp2
        go_ret
        exact ⟨ret_bool HF.out.symm, rfl⟩
      · have he' : (ls[k] == s.toList) = false := by simp at he ⊢; exact fun h => he h.symm
        have HE := Lib.hid (show (s.toList == ls[k]) = false by simpa using he)
        clear he
        go_wp2
        go_round
        case rel =>
          refine ⟨k + 1, by omega, by go_num, fun j hj hjk => ?_⟩
          by_cases e : j < k
          · exact hgood.out j hj e
          · obtain rfl : j = k := by omega
            exact HE.out
        case measure => simp [intOf]; omega
    · have HF := Lib.hid (show ls.any (s.toList == ·) = false by
        rw [List.any_eq_false]
        intro x hx
        obtain ⟨i, hi, rfl⟩ := List.mem_iff_getElem.1 hx
        simp [hgood.out i hi (by omega)])
      go_wp2
      go_ret
      exact ⟨ret_bool HF.out.symm, rfl⟩

/-- What Own answers. -/
def OwnPost (w : World) (e : Ending) (w' : World) : Prop :=
  ∃ a b, e = .returned (.tuple #[.slice a 15 15, .slice b 25 25]) ∧ Strs w' a 15 kwL ∧ Strs w' b 25 signL ∧ Below w.heap.size w w'

theorem own_fin (w : World) : OwnPost w (.returned (.tuple #[.slice (some ⟨w.heap.size, 0, none⟩) 15 15, .slice (some ⟨w.heap.size + 1, 0, none⟩) 25 25]))
    ((w.alloc (.cells (kwL.map strV).toArray 9)).alloc (.cells (signL.map strV).toArray 9)) := by
  have h1 := slV_alloc w 9 (size := 1) (n := 15) (xs := kwL.map strV) (by omega) rfl
  have h2 := slV_alloc (w.alloc (.cells (kwL.map strV).toArray 9)) 9 (size := 1) (n := 25) (xs := signL.map strV) (by omega) rfl
  have hz : (w.alloc (.cells (kwL.map strV).toArray 9)).heap.size = w.heap.size + 1 := by simp
  rw [hz] at h2
  refine ⟨_, _, rfl, h1.below ((Below.refl _ _).alloc (by simp) _), h2, ((Below.refl _ _).alloc (by simp) _).alloc (by simp) _⟩

theorem Own_any (w : World) : Calls Try.prog 111 #[] w (OwnPost w) := by
  go_enter Try.func111, Try.ntmps111
  go_wp2
  go_ret2
  exact own_fin w

/-- A byte at a place of a name. -/
def fitC (s : ByteArray) (j : Nat) (hj : j < s.size) : Prop := nameC s[j] = true ∧ (j = 0 → su s[j] = 5)
theorem fit_name {s : ByteArray} (h0 : 0 < s.size) (h : ∀ j (hj : j < s.size), fitC s j hj) : nameL s.toList = true := by
  rw [nameL_head h0, data_all fun j hj => (h j hj).1, (h 0 h0).2 rfl]; rfl
theorem unfit_name {s : ByteArray} {j : Nat} (hj : j < s.size) (h : ¬ fitC s j hj) : nameL s.toList = false := by
  rw [nameL_head (by omega)]
  by_cases hn : nameC s[j] = true
  · by_cases e : j = 0
    · subst e
      have : ¬ su s[0] = 5 := fun h' => h ⟨hn, fun _ => h'⟩
      simp [this]
    · exact absurd ⟨hn, fun h' => absurd h' e⟩ h
  · rw [data_not hj (by simpa using hn)]; simp
theorem ku_su (c : UInt8) : ku c = if su c = 5 then 1 else if su c = 6 then 2 else if su c = 4 then 3 else if su c = 7 then 4 else 0 := kind_of_sort _
theorem nameC_ku (c : UInt8) : nameC c = true ↔ ku c = 1 ∨ ku c = 3 ∨ ku c = 4 := by
  rw [ku_su]
  unfold nameC
  simp only [Bool.or_eq_true, beq_iff_eq]
  repeat' split
  all_goals omega
theorem small_ku (c : UInt8) : su c = 5 ↔ ku c = 1 := by
  rw [ku_su]
  repeat' split
  all_goals omega
theorem fit_ku (s : ByteArray) (j : Nat) (hj : j < s.size) : fitC s j hj ↔ (ku s[j] = 1 ∨ (j ≠ 0 ∧ (ku s[j] = 3 ∨ ku s[j] = 4))) := by
  unfold fitC
  rw [nameC_ku, small_ku]
  by_cases e : j = 0
  · subst e; simp only [forall_const, ne_eq, not_true, false_and, or_false]; omega
  · simp [e]

set_option maxRecDepth 100000 in
set_option maxHeartbeats 1000000 in
theorem Wordly_any (s : ByteArray) (w : World) (hs : s.size ≤ 9223372036854775807) :
    Calls Try.prog 112 #[.string s] w fun e w' => e = .returned (.bool (nameL s.toList)) ∧ w = w' := by
  go_enter Try.func112, Try.ntmps112
  go_wp2
  go_loop [3, 4] (fun i _ => ∃ k : Nat, k ≤ s.size ∧ i = .int .i64 k ∧ Hid (∀ j (hj : j < s.size), j < k → fitC s j hj)) (fun i _ => s.size - (intOf i).toNat)
  case atStart => exact ⟨0, by omega, rfl, fun j hj hk => by omega⟩
  case round =>
    obtain ⟨k, hk, rfl, hgood⟩ := hrel
    by_cases hlt : k < s.size
    · have hf := fit_ku s k hlt
      have hb := kind_bd (s[k].toNat : Int)
      have hb' : ku s[k] = 0 ∨ ku s[k] = 1 ∨ ku s[k] = 2 ∨ ku s[k] = 3 ∨ ku s[k] = 4 := by unfold ku; omega
      have HC := Lib.hid (kind_byte s[k] w)
      generalize hx : ku s[k] = x at *
      clear hx hb
      by_cases e0 : k = 0
      · subst e0
        by_cases g : fitC s 0 hlt
        · have HG := Lib.hid g
          have hx : x = 1 := by have := hf.1 g; omega
          subst hx
          clear hf hb' g
          go_wp2_with (go_at_call 127; refine HC.out.mono ?_; rintro e w' ⟨rfl, rfl⟩)
          go_round
          case rel =>
            refine ⟨1, by omega, by go_num, fun j hj hjk => ?_⟩
            obtain rfl : j = 0 := by omega
            exact HG.out
          case measure => simp [intOf]; omega
        · have HF := Lib.hid (unfit_name hlt g)
          have hx : x = 0 ∨ x = 2 ∨ x = 3 ∨ x = 4 := by
            rcases hb' with h | h | h | h | h
            · exact .inl h
            · exact absurd (hf.2 (.inl h)) g
            · exact .inr (.inl h)
            · exact .inr (.inr (.inl h))
            · exact .inr (.inr (.inr h))
          clear hf hb' g
          rcases hx with rfl | rfl | rfl | rfl
          all_goals
            go_wp2_with (go_at_call 127; refine HC.out.mono ?_; rintro e w' ⟨rfl, rfl⟩)
            go_ret
            exact ⟨ret_bool HF.out.symm, rfl⟩
      · have e0' : ((k : Int) == 0) = false := by simp; omega
        by_cases g : fitC s k hlt
        · have HG := Lib.hid g
          have hx : x = 1 ∨ x = 3 ∨ x = 4 := by have := hf.1 g; omega
          clear hf hb' g
          rcases hx with rfl | rfl | rfl
          all_goals
            go_wp2_with (go_at_call 127; refine HC.out.mono ?_; rintro e w' ⟨rfl, rfl⟩)
            go_round
            case rel =>
              refine ⟨k + 1, by omega, by go_num, fun j hj hjk => ?_⟩
              by_cases e : j < k
              · exact hgood.out j hj e
              · obtain rfl : j = k := by omega
                exact HG.out
            case measure => simp [intOf]; omega
        · have HF := Lib.hid (unfit_name hlt g)
          have hx : x = 0 ∨ x = 2 := by
            rcases hb' with h | h | h | h | h
            · exact .inl h
            · exact absurd (hf.2 (.inl h)) g
            · exact .inr h
            · exact absurd (hf.2 (.inr ⟨e0, .inl h⟩)) g
            · exact absurd (hf.2 (.inr ⟨e0, .inr h⟩)) g
          clear hf hb' g
          rcases hx with rfl | rfl
          all_goals
            go_wp2_with (go_at_call 127; refine HC.out.mono ?_; rintro e w' ⟨rfl, rfl⟩)
            go_ret
            exact ⟨ret_bool HF.out.symm, rfl⟩
    · by_cases h0 : 0 < s.size
      · have HF := Lib.hid (fit_name h0 fun j hj => hgood.out j hj (by omega))
        go_wp2_with fail
        go_ret
        exact ⟨ret_bool (by rw [HF.out]), rfl⟩
      · have HF := Lib.hid (show nameL s.toList = false by rw [data_nil (by omega)]; rfl)
        go_wp2_with fail
        go_ret
        exact ⟨ret_bool (by rw [HF.out]), rfl⟩

theorem refWord_any (s : ByteArray) (w : World) (hs : s.size ≤ 9223372036854775807) :
    Calls Try.prog 90 #[.string s] w fun e w' => e = .returned (.bool (wordL s.toList)) ∧ Below w.heap.size w w' := by
  have hw : wordL s.toList = (decide (s.size ≤ 32) && nameL s.toList && !kwL.any (s.toList == ·)) := by unfold wordL kw; rw [data_len]
  have HN := Lib.hid (fun w => Wordly_any s w hs)
  have HI := Lib.hid (fun a w h => in_any a 15 kwL s w h (by decide))
  have HW := Lib.hid hw
  clear hw
  generalize nameL s.toList = n at *
  generalize kwL.any (s.toList == ·) = k at *
  cases n <;> cases k
  all_goals
    go_enter Try.func90, Try.ntmps90
    go_wp2_with (first | (go_at_call 111; refine (Own_any _).mono ?_; rintro e w1 ⟨a, b, rfl, h1, h2, h3⟩; have H1 := Lib.hid h1; clear h1 h2) | (go_at_call 112; refine (HN.out _).mono ?_; rintro e w' ⟨rfl, rfl⟩) | (go_at_call 113; refine (HI.out _ _ H1.out).mono ?_; rintro e w' ⟨rfl, rfl⟩))
    go_ret
    refine ⟨ret_bool ?_, h3⟩
    rw [HW.out]
    first | rfl | (simp; done) | (simp; omega)
end Go.Proofs.Ytcjhgefkbnbmnaa

namespace Go.Proofs.Ytcjhgefkbnbmnaa
open Go.RowKit LM
set_option linter.unusedVariables false

theorem sortO_0 {op : Int} (h : ¬ (1 ≤ op ∧ op ≤ 11)) : sortO op = 0 := by unfold sortO; rw [if_neg (by omega), if_neg (by omega)]
theorem sortO_1 {op : Int} (h : 1 ≤ op) (h2 : op ≤ 7) : sortO op = 1 := by unfold sortO; rw [if_pos ⟨h, h2⟩]
theorem sortO_2 {op : Int} (h : 8 ≤ op) (h2 : op ≤ 11) : sortO op = 2 := by unfold sortO; rw [if_neg (by omega), if_pos ⟨h, h2⟩]
theorem sortO_le (op : Int) : sortO op ≤ 2 := by unfold sortO; split <;> (try split) <;> omega

theorem ksort_any (op : Int) (w : World) (h0 : 0 ≤ op) (h1 : op ≤ 255) :
    Calls Try.prog 70 #[.int .u8 op] w fun e w' => e = .returned (.int .u8 (sortO op)) ∧ w = w' := by
  have H0 := Lib.hid (@sortO_0 op)
  have H1 := Lib.hid (@sortO_1 op)
  have H2 := Lib.hid (@sortO_2 op)
  generalize sortO op = s at *
  go_enter Try.func70, Try.ntmps70
  go_wp2
  all_goals (go_ret; refine ⟨ret_int ?_, rfl⟩)
  all_goals (simp only [beq_iff_eq, beq_eq_false_iff_ne, ne_eq] at *)
  all_goals first
    | (rw [H1.out (by omega) (by omega)]; rfl)
    | (rw [H2.out (by omega) (by omega)]; rfl)
    | (rw [H0.out (by omega)]; rfl)

theorem isVar_any (op : Int) (w : World) (h0 : 0 ≤ op) (h1 : op ≤ 255) :
    Calls Try.prog 58 #[.int .u8 op] w fun e w' => e = .returned (.bool (isVarB op)) ∧ w = w' := by
  have H : Hid (isVarB op = (decide (op = 7) || decide (op = 10))) := Lib.hid rfl
  generalize isVarB op = s at *
  by_cases h7 : op = 7
  · subst h7
    go_enter Try.func58, Try.ntmps58
    go_wp2
    go_ret
    exact ⟨ret_bool (by rw [H.out]; rfl), rfl⟩
  · have h7' : (op == 7) = false := by simpa using h7
    go_enter Try.func58, Try.ntmps58
    go_wp2
    go_ret
    refine ⟨ret_bool ?_, rfl⟩
    rw [H.out, Bool.eq_iff_iff]; simp [h7]

theorem kid_any (h : Hd) (v : Value) (s : Nat) (w : World) (hh : h.ok) (hs : s ≤ 2) (q : Option Addr) (len cap : Nat) :
    Calls Try.prog 145 #[.agg #[.int .u8 h.op, .string h.name, .int .i64 h.n, .slice q len cap], .int .u8 s] w fun e w' => e = .returned (.bool (decide (sortO h.op = s))) ∧ Below w.heap.size w w' := by
  have HS := Lib.hid (fun w => ksort_any h.op w hh.op0 hh.op1)
  have hle := sortO_le h.op
  generalize sortO h.op = m at *
  generalize h.op = o1 at *
  generalize h.name = o2 at *
  generalize h.n = o3 at *
  go_enter Try.func145, Try.ntmps145
  go_wp2_with (go_at_call 70; refine (HS.out _).mono ?_; rintro e w' ⟨rfl, rfl⟩)
  go_ret
  refine ⟨ret_bool ?_, (Below.refl _ _).alloc (Nat.le_refl _) _⟩
  rw [Bool.eq_iff_iff]; simp; omega

/-- The i-th tree. -/
def Fo.get (f : Fo) (i : Nat) : Hd × Fo := f.toList.getD i (⟨0, ⟨#[]⟩, 0⟩, .nil)
theorem Fo.get_zero (h : Hd) (k r : Fo) : (Fo.cons h k r).get 0 = (h, k) := rfl
theorem Fo.get_succ (h : Hd) (k r : Fo) (i : Nat) : (Fo.cons h k r).get (i + 1) = r.get i := by simp [Fo.get, Fo.toList]
theorem FoAt.get {w : World} : ∀ {f : Fo} {b o : Nat}, FoAt w f b o → ∀ i, i < f.len →
    ∃ q cap, HdAt w b (o + i * 4) (f.get i).1 q (f.get i).2.len cap ∧ SlF w q cap (f.get i).2
  | .nil, _, _, _, i, hi => by simp [Fo.len] at hi
  | .cons h k r, b, o, ⟨q, cap, hh, hk, hr⟩, 0, _ => ⟨q, cap, by rw [Fo.get_zero]; simpa using hh, ⟨hh.lc, hh.cm, hk⟩⟩
  | .cons h k r, b, o, ⟨q, cap, hh, hk, hr⟩, i + 1, hi => by
    obtain ⟨q', cap', h1, h2⟩ := FoAt.get hr i (by simp [Fo.len] at hi; omega)
    rw [Fo.get_succ]
    exact ⟨q', cap', by rw [show o + (i + 1) * 4 = o + 4 + i * 4 by omega]; exact h1, h2⟩
theorem Fo.ok_get {f : Fo} (h : f.ok) : ∀ i, i < f.len → (f.get i).1.ok ∧ (f.get i).2.ok := by
  induction f with
  | nil => intro i hi; simp [Fo.len] at hi
  | cons h' k r _ hr =>
    intro i hi
    cases i with
    | zero => rw [Fo.get_zero]; exact ⟨h.1, h.2.1⟩
    | succ i => rw [Fo.get_succ]; exact hr h.2.2 i (by simp [Fo.len] at hi; omega)
theorem Fo.length_sorts (f : Fo) : f.sorts.length = f.len := by
  induction f with
  | nil => rfl
  | cons h k r _ hr => simp [Fo.sorts, Fo.len, hr]
theorem Fo.sorts_get {f : Fo} : ∀ i, i < f.len → f.sorts[i]? = some (sortO (f.get i).1.op) := by
  induction f with
  | nil => intro i hi; simp [Fo.len] at hi
  | cons h' k r _ hr =>
    intro i hi
    cases i with
    | zero => rfl
    | succ i => rw [Fo.get_succ]; simpa [Fo.sorts] using hr i (by simp [Fo.len] at hi; omega)

/-- A list of sorts in memory. -/
def SortsAt (w : World) (ss : List Nat) (b o : Nat) : Prop := ∀ i, (h : i < ss.length) → w.cell? ⟨b, o + i, none⟩ = some (.int .u8 (ss[i] : Nat))

theorem take_eq_succ {α : Type} [BEq α] {l m : List α} {k : Nat} {a b : α} (h : l.take k = m.take k) (ha : l[k]? = some a) (hb : m[k]? = some b) (hab : a = b) : l.take (k + 1) = m.take (k + 1) := by
  rw [List.take_add_one, List.take_add_one, h, ha, hb, hab]

set_option maxRecDepth 100000 in
set_option maxHeartbeats 1000000 in
theorem kidsEq_any (f : Fo) (q : Option Addr) (cap : Nat) (ss : List Nat) (a : Option Addr) (c : Nat) (w : World) (hf : SlF w q cap f) (hok : f.ok) (hss : ∀ s ∈ ss, s ≤ 2) (hc : ss.length ≤ c) (hcm : ss.length ≤ 10)
    (ha : 0 < ss.length → ∃ b o, a = some ⟨b, o, none⟩ ∧ SortsAt w ss b o) :
    Calls Try.prog 144 #[.slice q f.len cap, .slice a ss.length c, .func (.func 145) #[] #[]] w fun e w' => e = .returned (.bool (decide (f.sorts = ss))) ∧ Below w.heap.size w w' := by
  have hlen := f.length_sorts
  by_cases hl : f.len = ss.length
  · have hl' : ((f.len : Int) == ss.length) = true := by simp [hl]
    have HL := Lib.hid hl
    have HF := Lib.hid hf
    have HA := Lib.hid ha
    have HG := Lib.hid hlen
    have HSS := Lib.hid hss
    rw [hl]
    clear hl hl' hf ha hlen hss
    generalize hm : ss.length = m at *
    go_enter Try.func144, Try.ntmps144
    go_wp2
    go_loopw [17] (fun i wr => ∃ k : Nat, k ≤ m ∧ i = .int .i64 k ∧ f.sorts.take k = ss.take k ∧ Below w.heap.size w wr) (fun i _ => m - (intOf i).toNat)
    case atStart => exact ⟨0, Nat.zero_le _, rfl, rfl, Below.refl _ _⟩
    case round =>
      obtain ⟨k, hk, rfl, ht, hB⟩ := hrel
      have HT := Lib.hid ht
      clear ht
      by_cases hkm : k < m
      · have hkf : k < f.len := by rw [HL.out]; exact hkm
        have hks : k < ss.length := by rw [hm]; exact hkm
        obtain ⟨b, o, rfl, hfo⟩ := ((HF.out.below hB).at_ (Nat.lt_of_le_of_lt (Nat.zero_le _) hkf))
        obtain ⟨b2, o2, rfl, hso⟩ := HA.out (by omega)
        obtain ⟨q1, cap1, hh, _⟩ := hfo.get k hkf
        have hok1 := (Fo.ok_get hok k hkf).1
        have hsk : w.cell? ⟨b2, o2 + k, none⟩ = some (.int .u8 (ss[k]'hks : Nat)) := hso k hks
        have hsk' : wr.cell? ⟨b2, o2 + k, none⟩ = some (.int .u8 (ss[k]'hks : Nat)) := (hB.cell (p := ⟨b2, o2 + k, none⟩) (World.block_lt_of_cell? w _ hsk)).trans hsk
        have hs2 : ss[k]'hks ≤ 2 := HSS.out _ (List.getElem_mem _)
        have e1 := Lib.hid (Fo.sorts_get (f := f) k hkf)
        have e2 : Hid (ss[k]? = some (ss[k]'hks)) := Lib.hid (List.getElem?_eq_getElem _)
        have HC := Lib.hid fun w => kid_any (f.get k).1 undef (ss[k]'hks) w hok1 hs2 q1 (f.get k).2.len cap1
        have c0 := hh.c0
        have c1 := hh.c1
        have c2 := hh.c2
        have c3 := hh.c3
        have hlt := hh.lt
        have hlt2 : b2 < wr.heap.size := World.block_lt_of_cell? wr _ hsk'
        have hB0 := Lib.hid hB
        have hss := hB.size
        clear hh hfo hso hsk hB hkf
        generalize ss[k]'_ = s1 at *
        by_cases hse : sortO (f.get k).1.op = s1
        · have hd : decide (sortO (f.get k).1.op = s1) = true := decide_eq_true hse
          rw [hd] at HC
          have HE := Lib.hid hse
          clear hse hd
          generalize (f.get k).1.op = g1 at *
          generalize (f.get k).1.name = g2 at *
          generalize (f.get k).1.n = g3 at *
          generalize (f.get k).2.len = g4 at *
          go_wp2_with (go_at_call 145; refine (HC.out _).mono ?_; rintro e w' ⟨rfl, hb2⟩; have HB2 := Lib.hid hb2; clear hb2)
          go_roundw
          case rel => exact ⟨k + 1, by omega, by go_num, take_eq_succ HT.out e1.out e2.out HE.out, (hB0.out.alloc hss _).trans (HB2.out.mono (by simp; omega))⟩
          case measure => simp [intOf]; omega
        · have hd : decide (sortO (f.get k).1.op = s1) = false := decide_eq_false hse
          rw [hd] at HC
          have HE := Lib.hid hse
          clear hse hd
          generalize (f.get k).1.op = g1 at *
          generalize (f.get k).1.name = g2 at *
          generalize (f.get k).1.n = g3 at *
          generalize (f.get k).2.len = g4 at *
          go_wp2_with (go_at_call 145; refine (HC.out _).mono ?_; rintro e w' ⟨rfl, hb2⟩; have HB2 := Lib.hid hb2; clear hb2)
          go_ret
          refine ⟨ret_bool (Eq.symm (decide_eq_false fun h => ?_)), (hB0.out.alloc hss _).trans (HB2.out.mono (by simp; omega))⟩
          have h1 := e1.out; rw [h, e2.out] at h1
          exact HE.out (Option.some.inj h1).symm
      · have hke : k = m := by omega
        have HK := Lib.hid hke
        have HB0 := Lib.hid hB
        clear hB hke
        go_wp2
        go_ret
        refine ⟨ret_bool (Eq.symm (decide_eq_true ?_)), HB0.out⟩
        have h1 := HT.out
        rwa [HK.out, List.take_of_length_le (by rw [HG.out, HL.out]; exact Nat.le_refl _), List.take_of_length_le (by rw [hm]; exact Nat.le_refl _)] at h1
  · have hl' : ((f.len : Int) == ss.length) = false := by rw [beq_eq_false_iff_ne]; omega
    have hd : decide (f.sorts = ss) = false := decide_eq_false fun h => hl (by rw [← hlen, h])
    have HD := Lib.hid hd
    clear hd hlen hf hl
    go_enter Try.func144, Try.ntmps144
    go_wp2
    go_ret
    exact ⟨ret_bool HD.out.symm, Below.refl _ _⟩

end Go.Proofs.Ytcjhgefkbnbmnaa
