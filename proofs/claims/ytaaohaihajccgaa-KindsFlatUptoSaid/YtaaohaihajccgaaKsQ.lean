/- The stable sort of fields: the order of names, insertion sort, blocks: plain. -/
import Derived.Test.YtaaohaihajccgaaKsC
namespace Go.Proofs.Ytaaohaihajccgaa
open Go.RowKit LM Go.Sort Go.Shelf
set_option linter.unusedVariables false

theorem cmpB_lt : ∀ (a b : List UInt8), Lib.compareBytes a b < 0 ↔ a < b
  | [], [] => by simp [Lib.compareBytes]
  | [], _ :: _ => by simp [Lib.compareBytes]
  | _ :: _, [] => by simp [Lib.compareBytes]
  | a :: ta, b :: tb => by
    have ih := cmpB_lt ta tb
    unfold Lib.compareBytes
    rw [List.cons_lt_cons_iff]
    by_cases h1 : a < b
    · simp [h1]
    · rw [if_neg h1]
      by_cases h2 : b < a
      · rw [if_pos h2]
        have : a ≠ b := fun e => by subst e; exact h1 h2
        simp [h1, this]
      · rw [if_neg h2]
        have : a = b := UInt8.le_antisymm (UInt8.not_lt.1 h2) (UInt8.not_lt.1 h1)
        subst this
        simp [h1, ih]
theorem ltF_iff (x y : Fld) : ltF x y = true ↔ x.name.data.toList < y.name.data.toList := by
  unfold ltF fldCmp
  rw [decide_eq_true_iff]; exact cmpB_lt _ _
theorem ordF : Ord ltF := by
  refine ⟨fun x y h => ?_, fun x y z h => ?_⟩
  · cases h2 : ltF y x with
    | false => rfl
    | true => exact absurd ((ltF_iff y x).1 h2) (List.lt_asymm ((ltF_iff x y).1 h))
  · rw [ltF_iff] at *
    rw [ltF_iff]
    by_cases h1 : x.name.data.toList < z.name.data.toList
    · exact .inl h1
    · exact .inr (List.lt_of_le_of_lt (List.not_lt.1 h1) h)

section
variable {α : Type} {lt : α → α → Bool}
theorem ins_snoc {x y : α} (h : lt x y = true) : ∀ l : List α, ins lt x (l ++ [y]) = ins lt x l ++ [y]
  | [] => by simp [ins, h]
  | z :: l => by
    rw [List.cons_append, ins, ins]
    split
    · rfl
    · rw [ins_snoc h l]; rfl
theorem ins_all {x : α} : ∀ {l : List α}, (∀ z ∈ l, lt x z = false) → ins lt x l = l ++ [x]
  | [], _ => rfl
  | z :: l, h => by
    rw [ins, if_neg (by simp [h z (by simp)]), ins_all (fun a ha => h a (by simp [ha]))]; rfl
theorem srt_one (x : α) : srt lt [x] = [x] := rfl
theorem srt_nil : srt lt ([] : List α) = [] := rfl

variable [Inhabited α]
theorem swp_list (A T : List α) (x y : α) {j : Nat} (hj : j = A.length) : swp (A ++ y :: x :: T).toArray (j + 1) j = (A ++ x :: y :: T).toArray := by
  subst hj
  unfold swp
  have g1 : (A ++ y :: x :: T).toArray[A.length]! = y := by simp
  have g2 : (A ++ y :: x :: T).toArray[A.length + 1]! = x := by
    simp
  rw [g1, g2]
  simp only [List.setIfInBounds_toArray]
  rw [List.set_append_right _ _ (by omega), show A.length + 1 - A.length = 1 by omega, List.set_cons_succ, List.set_cons_zero, List.set_append_right _ _ (by omega), Nat.sub_self, List.set_cons_zero]
theorem insInner_list (o : Ord lt) (P T : List α) (x : α) : ∀ (n : Nat) (Y : List α) (T : List α), Y.length = n → Ris lt Y → insInner lt P.length (P.length + n) (P ++ Y ++ x :: T).toArray = (P ++ ins lt x Y ++ T).toArray := by
  intro n
  induction n with
  | zero =>
    intro Y T hY _
    obtain rfl := List.length_eq_zero_iff.1 hY
    have e : (P ++ [] ++ x :: T).toArray = (P ++ ins lt x [] ++ T).toArray := by simp [ins]
    rw [e]
    cases h : P.length with
    | zero => rw [insInner.eq_def]
    | succ k => rw [show k + 1 + 0 = k + 1 by omega, insInner]; simp
  | succ n ih =>
    intro Y T hY hR
    obtain ⟨Y, y, rfl⟩ : ∃ Z z, Y = Z ++ [z] := ⟨Y.dropLast, Y.getLast (by intro e; rw [e] at hY; simp at hY), (List.dropLast_concat_getLast _).symm⟩
    simp only [List.length_append, List.length_cons, List.length_nil] at hY
    have hR1 : Ris lt Y := (List.pairwise_append.1 hR).1
    have hR2 : ∀ z ∈ Y, lt y z = false := fun z hz => (List.pairwise_append.1 hR).2.2 z hz y (by simp)
    have e0 : P ++ (Y ++ [y]) ++ x :: T = (P ++ Y) ++ y :: x :: T := by simp
    have g1 : ((P ++ Y) ++ y :: x :: T).toArray[P.length + n]! = y := by
      have : P.length + n = (P ++ Y).length := by simp; omega
      rw [this]; simp
    have g2 : ((P ++ Y) ++ y :: x :: T).toArray[P.length + n + 1]! = x := by
      have : P.length + n + 1 = (P ++ Y).length + 1 := by simp; omega
      rw [this, List.getElem!_toArray, List.getElem!_eq_getElem?_getD, List.getElem?_append_right (by omega), show (P ++ Y).length + 1 - (P ++ Y).length = 1 by omega]
      rfl
    rw [e0, show P.length + (n + 1) = P.length + n + 1 by omega, insInner, g1, g2]
    cases hxy : lt x y with
    | true =>
      rw [if_pos (by simp; omega), swp_list _ _ _ _ (by simp; omega), ins_snoc hxy]
      have := ih Y (y :: T) (by omega) hR1
      rw [this]; simp
    | false =>
      rw [if_neg (by simp)]
      rw [ins_all (fun z hz => by
        rcases List.mem_append.1 hz with h | h
        · exact o.le_tr (hR2 z h) hxy
        · simp at h; subst h; exact hxy)]
      simp
theorem insOuter_list (o : Ord lt) (P S : List α) : ∀ (n : Nat) (Y Z : List α), Z.length = n → insOuter lt P.length (P.length + Y.length + n) (P.length + Y.length) (P ++ srt lt Y ++ Z ++ S).toArray = (P ++ srt lt (Y ++ Z) ++ S).toArray := by
  intro n
  induction n with
  | zero =>
    intro Y Z hZ
    obtain rfl := List.length_eq_zero_iff.1 hZ
    rw [insOuter, if_neg (by omega)]; simp
  | succ n ih =>
    intro Y Z hZ
    cases Z with
    | nil => simp at hZ
    | cons x Z =>
      simp only [List.length_cons] at hZ
      rw [insOuter, if_pos (by omega)]
      have h1 := insInner_list o P S x Y.length (srt lt Y) (Z ++ S) (length_srt Y) (ris_srt o Y)
      have e1 : P ++ srt lt Y ++ x :: Z ++ S = P ++ srt lt Y ++ x :: (Z ++ S) := by simp
      rw [e1, h1, ← srt_snoc]
      have h2 := ih (Y ++ [x]) Z (by omega)
      have e2 : P.length + (Y ++ [x]).length + n = P.length + Y.length + (n + 1) := by simp; omega
      have e3 : P.length + (Y ++ [x]).length = P.length + Y.length + 1 := by simp; omega
      rw [e2, e3] at h2
      have e4 : P ++ srt lt (Y ++ [x]) ++ (Z ++ S) = P ++ srt lt (Y ++ [x]) ++ Z ++ S := by simp
      rw [e4, h2]; simp
theorem insSort_list (o : Ord lt) (P X S : List α) {a b : Nat} (ha : a = P.length) (hb : b = a + X.length) : (Sort.insertionSort lt (P ++ X ++ S).toArray a b).toList = P ++ srt lt X ++ S := by
  subst ha hb
  unfold Sort.insertionSort
  cases X with
  | nil => rw [insOuter, if_neg (by simp)]; simp [srt]
  | cons x X =>
    have := insOuter_list o P S X.length [x] X rfl
    rw [srt_one] at this
    have e : P.length + (x :: X).length = P.length + [x].length + X.length := by simp; omega
    have e2 : P.length + 1 = P.length + [x].length := rfl
    rw [e, e2, show P ++ x :: X ++ S = P ++ [x] ++ X ++ S by simp, this]
    simp
end

/-! ### Blocks -/
section
variable {α : Type} (lt : α → α → Bool)
/-- Each s of them sorted alone. -/
def blk (s : Nat) (l : List α) : List α := if h : 0 < s ∧ s < l.length then srt lt (l.take s) ++ blk s (l.drop s) else srt lt l
termination_by l.length
decreasing_by simp; omega
variable {lt}
theorem blk_end {s : Nat} {l : List α} (h : l.length ≤ s) : blk lt s l = srt lt l := by rw [blk, dif_neg (by omega)]
theorem blk_app {s : Nat} {l : List α} (h0 : 0 < s) (h : s ≤ l.length) : blk lt s l = srt lt (l.take s) ++ blk lt s (l.drop s) := by
  by_cases h2 : s < l.length
  · rw [blk, dif_pos ⟨h0, h2⟩]
  · rw [blk, dif_neg (by omega), List.take_of_length_le (by omega), List.drop_of_length_le (by omega), blk_end (by simp), srt_nil, List.append_nil]
theorem length_blk {s : Nat} : ∀ (n : Nat) (l : List α), l.length ≤ n → (blk lt s l).length = l.length := by
  intro n
  induction n with
  | zero => intro l hl; rw [blk, dif_neg (by omega), length_srt]
  | succ n ih =>
    intro l hl
    rw [blk]
    split
    · rename_i h
      rw [List.length_append, length_srt, ih _ (by simp; omega)]; simp; omega
    · rw [length_srt]
end
end Go.Proofs.Ytaaohaihajccgaa
