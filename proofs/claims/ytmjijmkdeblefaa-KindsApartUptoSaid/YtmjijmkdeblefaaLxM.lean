/- Plain lists and numbers for layer 2: sorts of bytes, words, numbers, tokens of a text. Imports nothing of the program. -/
import Derived.Test.YtmjijmkdeblefaaRnM
import Derived.Lib.ParseIntB
import Derived.Laws.BytesArg
namespace Go.Proofs.Ytmjijmkdeblefaa.LM
open RM
set_option linter.unusedVariables false

/-! ### bytes -/
/-- The sort of a byte: 1 blank, 2 hash, 3 mark, 4 digit, 5 small, 6 great, 7 underscore, 0 other. -/
def sortV (c : Int) : Int :=
  if c = 32 ∨ c = 9 ∨ c = 13 ∨ c = 10 then 1 else if c = 35 then 2 else if c = 95 then 7
  else if c = 40 ∨ c = 41 ∨ c = 123 ∨ c = 125 ∨ c = 60 ∨ c = 62 ∨ c = 61 ∨ c = 44 ∨ c = 58 ∨ c = 59 ∨ c = 124 ∨ c = 46 ∨ c = 92 ∨ c = 64 ∨ c = 94 ∨ c = 63 ∨ c = 43 ∨ c = 45 ∨ c = 42 ∨ c = 47 ∨ c = 37 then 3
  else if 48 ≤ c ∧ c ≤ 57 then 4 else if 97 ≤ c ∧ c ≤ 122 then 5 else if 65 ≤ c ∧ c ≤ 90 then 6 else 0

/-- The document's kinds: 1 small letter, 2 great one, 3 digit, 4 underscore, 0 none of these. -/
def kindV (c : Int) : Int := if 97 ≤ c ∧ c ≤ 122 then 1 else if 65 ≤ c ∧ c ≤ 90 then 2 else if 48 ≤ c ∧ c ≤ 57 then 3 else if c = 95 then 4 else 0

theorem sort_bd (c : Int) : 0 ≤ sortV c ∧ sortV c ≤ 7 := by
  unfold sortV
  repeat' split
  all_goals omega
theorem kind_bd (c : Int) : 0 ≤ kindV c ∧ kindV c ≤ 4 := by
  unfold kindV
  repeat' split
  all_goals omega
theorem kind_of_sort (c : Int) : kindV c = if sortV c = 5 then 1 else if sortV c = 6 then 2 else if sortV c = 4 then 3 else if sortV c = 7 then 4 else 0 := by
  unfold sortV kindV
  repeat' split
  all_goals omega
theorem sort_digit {c : Int} : sortV c = 4 ↔ 48 ≤ c ∧ c ≤ 57 := by
  unfold sortV
  repeat' split
  all_goals omega

/-- Of a run? -/
def inRun (c : Int) : Bool := decide (4 ≤ sortV c)
theorem inRun_kind (c : Int) : inRun c = decide (0 < kindV c) := by
  have h1 := kind_of_sort c
  have h2 := sort_bd c
  unfold inRun
  rw [Bool.eq_iff_iff, decide_eq_true_iff, decide_eq_true_iff]
  repeat' split at h1
  all_goals omega

/-! ### words -/
def su (c : UInt8) : Int := sortV (c.toNat : Int)
def nameC (c : UInt8) : Bool := su c == 5 || su c == 4 || su c == 7
/-- Has it a name's bytes? -/
def nameL (l : List UInt8) : Bool := match l with
  | [] => false
  | c :: _ => su c == 5 && l.all nameC
def kwL : List (List UInt8) := [[102, 117, 110], [114, 101, 99], [108, 101, 116], [105, 110], [105, 102], [116, 104, 101, 110], [101, 108, 115, 101], [99, 97, 115, 101], [111, 102], [101, 110, 100], [116, 114, 117, 101], [102, 97, 108, 115, 101], [100, 101, 102], [73, 110, 116], [66, 111, 111, 108]]
/-- A word of the language? -/
def kw (l : List UInt8) : Bool := kwL.any (l == ·)
/-- A name? -/
def wordL (l : List UInt8) : Bool := decide (l.length ≤ 32) && nameL l && !kw l

/-- The document's signs. -/
def signL : List (List UInt8) := [[61, 61], [61, 62], [58, 61], [45, 62], [40], [41], [123], [125], [60], [62], [61], [44], [58], [59], [124], [46], [92], [64], [94], [63], [43], [45], [42], [47], [37]]

/-! ### numbers -/
def digL (l : List UInt8) : Bool := l.all fun c => su c == 4
/-- Digits alone, without noughts ahead. -/
def numB (l : List UInt8) : Bool := digL l && !(decide (1 < l.length) && l.head? == some 48)
def numL (l : List UInt8) : Nat := l.foldl (fun n c => 10 * n + (c.toNat - 48)) 0
/-- A number's value and its code. -/
def numT (l : List UInt8) : Int × Int := if numB l = false then (0, 4) else if 9223372036854775807 < numL l then (0, 7) else ((numL l : Int), 0)

theorem su_digit {c : UInt8} (h : su c = 4) : 48 ≤ c.toNat ∧ c.toNat ≤ 57 := by
  have := sort_digit.1 h
  omega

theorem fold_ge (l : List UInt8) : ∀ a : Nat, a ≤ l.foldl (fun n c => 10 * n + (c.toNat - 48)) a := by
  induction l with
  | nil => intro a; exact Nat.le_refl _
  | cons c r ih => intro a; have := ih (10 * a + (c.toNat - 48)); simp only [List.foldl_cons]; omega

theorem parseM (l : List UInt8) : ∀ acc : Nat, digL l = true → acc ≤ 18446744073709551615 →
    (∃ u, Go.Lib.parseUintM (2 ^ 64 - 1) acc l = .ok u ∧ u = l.foldl (fun n c => 10 * n + (c.toNat - 48)) acc) ∨
    (Go.Lib.parseUintM (2 ^ 64 - 1) acc l = .range ∧ 9223372036854775807 < l.foldl (fun n c => 10 * n + (c.toNat - 48)) acc) := by
  induction l with
  | nil => intro acc _ _; exact .inl ⟨acc, rfl, rfl⟩
  | cons c r ih =>
    intro acc hd ha
    unfold digL at hd
    simp only [List.all_cons, Bool.and_eq_true, beq_iff_eq] at hd
    have hc := su_digit hd.1
    unfold Go.Lib.parseUintM
    rw [if_pos hc]
    simp only [List.foldl_cons]
    have hge := fold_ge r (10 * acc + (c.toNat - 48))
    by_cases h1 : 1844674407370955162 ≤ acc
    · rw [if_pos h1]; exact .inr ⟨rfl, by omega⟩
    · rw [if_neg h1]
      by_cases h2 : 2 ^ 64 - 1 < acc * 10 + (c.toNat - 48)
      · rw [if_pos h2]; exact .inr ⟨rfl, by omega⟩
      · rw [if_neg h2]
        have := ih (acc * 10 + (c.toNat - 48)) hd.2 (by omega)
        rw [show acc * 10 = 10 * acc from Nat.mul_comm _ _] at this
        rw [show acc * 10 = 10 * acc from Nat.mul_comm _ _]
        exact this

theorem parse_of (l : List UInt8) (hd : digL l = true) (hne : l ≠ []) :
    Go.Lib.parseIntB 64 l = if 9223372036854775807 < numL l then .range else .ok (numL l : Int) := by
  cases l with
  | nil => exact absurd rfl hne
  | cons c r =>
    have hd' := hd
    unfold digL at hd'
    simp only [List.all_cons, Bool.and_eq_true, beq_iff_eq] at hd'
    have hc := su_digit hd'.1
    unfold Go.Lib.parseIntB
    simp only []
    rw [if_neg (show ¬ (c.toNat = 43 ∨ c.toNat = 45) by omega)]
    unfold Go.Lib.parseUintB
    rw [if_neg (by simp)]
    rcases parseM (c :: r) 0 hd (by omega) with ⟨u, h1, h2⟩ | ⟨h1, h2⟩
    · rw [h1]
      simp only []
      have e : u = numL (c :: r) := h2
      have h45 : ¬ c.toNat = 45 := by omega
      subst e
      by_cases h : 9223372036854775807 < numL (c :: r)
      · rw [if_pos ⟨h45, by omega⟩, if_pos h]
      · rw [if_neg (by rintro ⟨_, h'⟩; omega), if_neg (by rintro ⟨h', _⟩; omega), if_neg h, if_neg h45]
    · rw [h1]
      simp only []
      exact (if_pos h2).symm

/-- digits of one length: the lesser text is the lesser number -/
theorem num_less : ∀ (a b : List UInt8) (x y : Nat), digL a = true → digL b = true → a.length = b.length →
    (x < y ∨ (x = y ∧ Go.Op.bytesLess a b = true) ↔ a.foldl (fun n c => 10 * n + (c.toNat - 48)) x < b.foldl (fun n c => 10 * n + (c.toNat - 48)) y) := by
  intro a
  induction a with
  | nil =>
    intro b x y _ _ hl
    cases b with
    | nil => simp [Go.Op.bytesLess]
    | cons => simp at hl
  | cons c r ih =>
    intro b x y ha hb hl
    cases b with
    | nil => simp at hl
    | cons d s =>
      unfold digL at ha hb
      simp only [List.all_cons, Bool.and_eq_true, beq_iff_eq] at ha hb
      have hc := su_digit ha.1
      have hd := su_digit hb.1
      simp only [List.foldl_cons]
      rw [← ih s _ _ ha.2 hb.2 (by simpa using hl)]
      have e : Go.Op.bytesLess (c :: r) (d :: s) = true ↔ c.toNat < d.toNat ∨ (c.toNat = d.toNat ∧ Go.Op.bytesLess r s = true) := by
        rw [Go.Op.bytesLess]
        by_cases h1 : c < d
        · simp [h1]; have := UInt8.lt_iff_toNat_lt.1 h1; omega
        · have h1' : ¬ c.toNat < d.toNat := fun h => h1 (UInt8.lt_iff_toNat_lt.2 h)
          have h3 : c = d ↔ c.toNat = d.toNat := UInt8.toNat_inj.symm
          by_cases h2 : c.toNat = d.toNat
          · simp [h3.2 h2]
          · have h4 : ¬ c = d := fun h => h2 (h3.1 h)
            simp [h1, h4]; omega
      rw [e]
      constructor
      · rintro (h | ⟨rfl, h | ⟨h, h'⟩⟩)
        · left; omega
        · left; omega
        · exact .inr ⟨by omega, h'⟩
      · rintro (h | ⟨h, h'⟩)
        · by_cases hxy : x < y
          · exact .inl hxy
          · right; exact ⟨by omega, .inl (by omega)⟩
        · have h1 : x = y := by omega
          exact .inr ⟨h1, .inr ⟨by omega, h'⟩⟩

theorem bytesLess_irrefl (a : List UInt8) : Go.Op.bytesLess a a = false := by
  induction a with
  | nil => rfl
  | cons c r ih => rw [Go.Op.bytesLess]; simp [ih]

end Go.Proofs.Ytmjijmkdeblefaa.LM
