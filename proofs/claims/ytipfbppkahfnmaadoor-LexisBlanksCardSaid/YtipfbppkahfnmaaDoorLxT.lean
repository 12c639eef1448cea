/- Plain lists for layer 2: tokens of a text. Imports nothing of the program. -/
import Derived.Test.YtipfbppkahfnmaaDoorLxM
namespace Go.Proofs.YtipfbppkahfnmaaDoor.LM
open RM
set_option linter.unusedVariables false

/-- A token. -/
structure Tok where
  kind : Int
  text : ByteArray
  n : Int
  at_ : Int

instance : DecidableEq Tok := fun a b =>
  decidable_of_iff (a.kind = b.kind ∧ a.text = b.text ∧ a.n = b.n ∧ a.at_ = b.at_) ⟨fun ⟨h1, h2, h3, h4⟩ => by
    obtain ⟨k, t, n, p⟩ := a
    obtain ⟨k', t', n', p'⟩ := b
    simp only [] at h1 h2 h3 h4
    rw [h1, h2, h3, h4], fun h => by rw [h]; exact ⟨rfl, rfl, rfl, rfl⟩⟩

def zT : Tok := ⟨0, ⟨#[]⟩, 0, 0⟩

/-- The token that a run is, and its code. -/
def runTk (s : ByteArray) : Tok × Int :=
  if kw s.toList = true then (⟨3, s, 0, 0⟩, 0)
  else if su (s.toList.headD 0) = 4 then (if (numT s.toList).2 = 0 then (⟨2, ⟨#[]⟩, (numT s.toList).1, 0⟩, 0) else (zT, (numT s.toList).2))
  else if nameL s.toList = false then (zT, 4)
  else if 32 < s.toList.length then (zT, 7)
  else (⟨1, s, 0, 0⟩, 0)

theorem numT_cases (l : List UInt8) : ((numT l).2 = 0 ∧ numT l = ((numT l).1, 0) ∧ 0 ≤ (numT l).1 ∧ (numT l).1 ≤ 9223372036854775807) ∨ ((numT l).1 = 0 ∧ ((numT l).2 = 4 ∨ (numT l).2 = 7)) := by
  unfold numT
  split
  · exact .inr ⟨rfl, .inl rfl⟩
  · split
    · exact .inr ⟨rfl, .inr rfl⟩
    · exact .inl ⟨rfl, rfl, by simp, by simp only []; omega⟩

theorem runTk_kw {s : ByteArray} (h : kw s.toList = true) : runTk s = (⟨3, s, 0, 0⟩, 0) := by unfold runTk; rw [if_pos h]
theorem runTk_num {s : ByteArray} (h : kw s.toList = false) (h1 : su (s.toList.headD 0) = 4) {n : Int} (h2 : numT s.toList = (n, 0)) : runTk s = (⟨2, ⟨#[]⟩, n, 0⟩, 0) := by
  unfold runTk; rw [if_neg (by simp [h]), if_pos h1, h2, if_pos rfl]
theorem runTk_nonum {s : ByteArray} (h : kw s.toList = false) (h1 : su (s.toList.headD 0) = 4) {c : Int} (h2 : (numT s.toList).2 = c) (h3 : c ≠ 0) : runTk s = (zT, c) := by
  unfold runTk; rw [if_neg (by simp [h]), if_pos h1, h2, if_neg h3]
theorem runTk_strange {s : ByteArray} (h : kw s.toList = false) (h1 : su (s.toList.headD 0) ≠ 4) (h2 : nameL s.toList = false) : runTk s = (zT, 4) := by
  unfold runTk; rw [if_neg (by simp [h]), if_neg h1, if_pos h2]
theorem runTk_long {s : ByteArray} (h : kw s.toList = false) (h1 : su (s.toList.headD 0) ≠ 4) (h2 : nameL s.toList = true) (h3 : 32 < s.toList.length) : runTk s = (zT, 7) := by
  unfold runTk; rw [if_neg (by simp [h]), if_neg h1, if_neg (by simp [h2]), if_pos h3]
theorem runTk_word {s : ByteArray} (h : kw s.toList = false) (h1 : su (s.toList.headD 0) ≠ 4) (h2 : nameL s.toList = true) (h3 : ¬ 32 < s.toList.length) : runTk s = (⟨1, s, 0, 0⟩, 0) := by
  unfold runTk; rw [if_neg (by simp [h]), if_neg h1, if_neg (by simp [h2]), if_neg h3]
theorem runTk_cases (s : ByteArray) : ((runTk s).2 = 0 ∧ ((runTk s).1.kind = 1 ∨ (runTk s).1.kind = 2 ∨ (runTk s).1.kind = 3)) ∨ ((runTk s).1 = zT ∧ ((runTk s).2 = 4 ∨ (runTk s).2 = 7)) := by
  unfold runTk
  split
  · exact .inl ⟨rfl, .inr (.inr rfl)⟩
  · split
    · split
      · exact .inl ⟨rfl, .inr (.inl rfl)⟩
      · rcases numT_cases s.toList with ⟨h, _⟩ | ⟨_, h⟩
        · contradiction
        · exact .inr ⟨rfl, h⟩
    · split
      · exact .inr ⟨rfl, .inl rfl⟩
      · split
        · exact .inr ⟨rfl, .inr rfl⟩
        · exact .inl ⟨rfl, .inl rfl⟩
theorem kw_digit {l : List UInt8} (h : su (l.headD 0) = 4) : kw l = false := by
  have := su_digit h
  unfold kw
  rw [List.any_eq_false]
  intro x hx e
  simp only [beq_iff_eq] at e
  subst e
  simp only [kwL, List.mem_cons, List.not_mem_nil, or_false] at hx
  rcases hx with rfl | rfl | rfl | rfl | rfl | rfl | rfl | rfl | rfl | rfl | rfl | rfl | rfl | rfl | rfl <;> simp at this

/-! ### how great numbers are -/
theorem fold_lo (l : List UInt8) : ∀ a : Nat, a * 10 ^ l.length ≤ l.foldl (fun n c => 10 * n + (c.toNat - 48)) a := by
  induction l with
  | nil => intro a; simp
  | cons c r ih =>
    intro a
    have := ih (10 * a + (c.toNat - 48))
    simp only [List.foldl_cons, List.length_cons, Nat.pow_succ]
    refine Nat.le_trans ?_ this
    calc a * (10 ^ r.length * 10) = (10 * a) * 10 ^ r.length := by rw [Nat.mul_comm (10 ^ r.length) 10, ← Nat.mul_assoc, Nat.mul_comm a 10]
      _ ≤ (10 * a + (c.toNat - 48)) * 10 ^ r.length := Nat.mul_le_mul_right _ (by omega)
theorem fold_hi (l : List UInt8) : ∀ a : Nat, digL l = true → l.foldl (fun n c => 10 * n + (c.toNat - 48)) a < (a + 1) * 10 ^ l.length := by
  induction l with
  | nil => intro a _; simp
  | cons c r ih =>
    intro a hd
    unfold digL at hd
    simp only [List.all_cons, Bool.and_eq_true, beq_iff_eq] at hd
    have hc := su_digit hd.1
    have := ih (10 * a + (c.toNat - 48)) hd.2
    simp only [List.foldl_cons, List.length_cons, Nat.pow_succ]
    refine Nat.lt_of_lt_of_le this ?_
    calc (10 * a + (c.toNat - 48) + 1) * 10 ^ r.length ≤ (10 * (a + 1)) * 10 ^ r.length := Nat.mul_le_mul_right _ (by omega)
      _ = (a + 1) * (10 ^ r.length * 10) := by rw [Nat.mul_comm (10 ^ r.length) 10, ← Nat.mul_assoc, Nat.mul_comm (a + 1) 10]
theorem num_short {l : List UInt8} (h : digL l = true) (hl : l.length < 19) : numL l ≤ 9223372036854775807 := by
  have h1 := fold_hi l 0 h
  have h2 : 10 ^ l.length ≤ 10 ^ 18 := Nat.pow_le_pow_right (by omega) (by omega)
  unfold numL
  omega
theorem num_long {c : UInt8} {r : List UInt8} (h : numB (c :: r) = true) (hl : 19 < (c :: r).length) : 9223372036854775807 < numL (c :: r) := by
  unfold numB at h
  simp only [Bool.and_eq_true, List.length_cons, List.head?_cons] at h
  obtain ⟨h1, h2⟩ := h
  simp only [List.length_cons] at hl
  unfold digL at h1
  simp only [List.all_cons, Bool.and_eq_true, beq_iff_eq] at h1
  have hc := su_digit h1.1
  have hc' : ¬ c = 48 := by
    intro e
    subst e
    have h3 : 1 < r.length + 1 := by omega
    rw [decide_eq_true h3] at h2
    simp at h2
  have hc2 : 49 ≤ c.toNat := by
    have : ¬ c.toNat = 48 := fun e => hc' (UInt8.toNat_inj.1 e)
    omega
  have h3 := fold_lo r (10 * 0 + (c.toNat - 48))
  have h4 : 10 ^ 19 ≤ 10 ^ r.length := Nat.pow_le_pow_right (by omega) (by omega)
  have h5 : 1 * 10 ^ r.length ≤ (10 * 0 + (c.toNat - 48)) * 10 ^ r.length := Nat.mul_le_mul_right _ (by omega)
  unfold numL
  simp only [List.foldl_cons]
  omega
/-- the greatest number's text -/
def limL : List UInt8 := [57, 50, 50, 51, 51, 55, 50, 48, 51, 54, 56, 53, 52, 55, 55, 53, 56, 48, 55]
theorem less_total : ∀ (a b : List UInt8), a.length = b.length → Go.Op.bytesLess a b = false → a ≠ b → Go.Op.bytesLess b a = true := by
  intro a
  induction a with
  | nil =>
    intro b hl _ hn
    cases b with
    | nil => exact absurd rfl hn
    | cons => simp at hl
  | cons c r ih =>
    intro b hl h hn
    cases b with
    | nil => simp at hl
    | cons d s =>
      rw [Go.Op.bytesLess] at h ⊢
      simp only [Bool.or_eq_false_iff, Bool.and_eq_false_iff, decide_eq_false_iff_not, Bool.or_eq_true, decide_eq_true_iff, Bool.and_eq_true, beq_iff_eq, beq_eq_false_iff_ne] at h ⊢
      by_cases e : c = d
      · subst e
        right
        refine ⟨rfl, ih s (by simpa using hl) ?_ (fun e => hn (by rw [e]))⟩
        rcases h.2 with h2 | h2
        · exact absurd rfl h2
        · exact h2
      · left
        have h1 := h.1
        rw [UInt8.lt_iff_toNat_lt] at h1 ⊢
        have : c.toNat ≠ d.toNat := fun h => e (UInt8.toNat_inj.1 h)
        omega
theorem num_lim {l : List UInt8} (h : digL l = true) (hl : l.length = 19) : (!(Go.Op.bytesLess l limL || l == limL)) = decide (9223372036854775807 < numL l) := by
  have e : numL limL = 9223372036854775807 := by decide
  have h1 := num_less l limL 0 0 h (by decide) (by rw [hl]; rfl)
  have h2 := num_less limL l 0 0 (by decide) h (by rw [hl]; rfl)
  have e1 : l.foldl (fun n c => 10 * n + (c.toNat - 48)) 0 = numL l := rfl
  have e2 : limL.foldl (fun n c => 10 * n + (c.toNat - 48)) 0 = 9223372036854775807 := e
  rw [e1, e2] at h1 h2
  by_cases hb : Go.Op.bytesLess l limL = true
  · have := h1.1 (.inr ⟨rfl, hb⟩)
    rw [hb, decide_eq_false (by omega)]; rfl
  · have hb' : Go.Op.bytesLess l limL = false := by simpa using hb
    rw [hb']
    by_cases he : l = limL
    · rw [he, e]; decide
    · have := h2.1 (.inr ⟨rfl, less_total l limL (by rw [hl]; rfl) hb' he⟩)
      rw [decide_eq_true this]
      simp [he]
theorem numL_snoc (l : List UInt8) (c : UInt8) : numL (l ++ [c]) = 10 * numL l + (c.toNat - 48) := by unfold numL; rw [List.foldl_append]; rfl
theorem numL_take {l : List UInt8} (h : digL l = true) (k : Nat) : numL (l.take k) ≤ numL l := by
  have e : numL l = (l.drop k).foldl (fun n c => 10 * n + (c.toNat - 48)) (numL (l.take k)) := by
    unfold numL
    rw [← List.foldl_append, List.take_append_drop]
  rw [e]
  exact fold_ge _ _
end Go.Proofs.YtipfbppkahfnmaaDoor.LM
