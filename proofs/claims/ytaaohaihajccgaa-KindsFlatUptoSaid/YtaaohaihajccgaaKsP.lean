/- The stable sort of fields: lists, plain. -/
import Derived.Test.YtaaohaihajccgaaKsA
namespace Go.Proofs.Ytaaohaihajccgaa
open Go.RowKit LM
set_option linter.unusedVariables false

/-- k exchanges of fields, one behind the other. -/
def swR (fs : List Fld) (a b : Nat) : Nat → List Fld
  | 0 => fs
  | k + 1 => swF (swR fs a b k) (a + k) (b + k)
theorem length_swR (fs : List Fld) (a b : Nat) : ∀ k, (swR fs a b k).length = fs.length
  | 0 => rfl
  | k + 1 => by rw [swR, length_swF, length_swR fs a b k]
theorem swF_eq (A B C : List Fld) (x y : Fld) {i j : Nat} (hi : i = A.length) (hj : j = A.length + 1 + B.length) : swF (A ++ x :: (B ++ y :: C)) i j = A ++ y :: (B ++ x :: C) := by
  subst hi hj
  have g1 : (A ++ x :: (B ++ y :: C)).getD A.length default = x := by simp [List.getD_eq_getElem?_getD]
  have g2 : (A ++ x :: (B ++ y :: C)).getD (A.length + 1 + B.length) default = y := by
    rw [List.getD_eq_getElem?_getD, List.getElem?_append_right (by omega), show A.length + 1 + B.length - A.length = B.length + 1 by omega, List.getElem?_cons_succ, List.getElem?_append_right (by omega)]
    simp
  unfold swF
  rw [g1, g2, List.set_append_right _ _ (by omega), Nat.sub_self, List.set_cons_zero, List.set_append_right _ _ (by omega), show A.length + 1 + B.length - A.length = B.length + 1 by omega, List.set_cons_succ, List.set_append_right _ _ (by omega), Nat.sub_self, List.set_cons_zero]
theorem swR_some (P M S : List Fld) : ∀ (k : Nat) (X1 X2 Y1 Y2 : List Fld) (a b : Nat), X1.length = k → Y1.length = k → a = P.length → b = a + k + X2.length + M.length →
    swR (P ++ (X1 ++ X2) ++ M ++ (Y1 ++ Y2) ++ S) a b k = P ++ (Y1 ++ X2) ++ M ++ (X1 ++ Y2) ++ S := by
  intro k
  induction k with
  | zero =>
    intro X1 X2 Y1 Y2 a b hx hy _ _
    obtain rfl := List.length_eq_zero_iff.1 hx
    obtain rfl := List.length_eq_zero_iff.1 hy
    rfl
  | succ k ih =>
    intro X1 X2 Y1 Y2 a b hx hy ha hb
    obtain ⟨X, x, rfl⟩ : ∃ X x, X1 = X ++ [x] := ⟨X1.dropLast, X1.getLast (by intro e; rw [e] at hx; simp at hx), (List.dropLast_concat_getLast _).symm⟩
    obtain ⟨Y, y, rfl⟩ : ∃ Y y, Y1 = Y ++ [y] := ⟨Y1.dropLast, Y1.getLast (by intro e; rw [e] at hy; simp at hy), (List.dropLast_concat_getLast _).symm⟩
    simp only [List.length_append, List.length_cons, List.length_nil] at hx hy
    have hI := ih X (x :: X2) Y (y :: Y2) a b (by omega) (by omega) ha (by simp; omega)
    have e1 : P ++ (X ++ [x] ++ X2) ++ M ++ (Y ++ [y] ++ Y2) ++ S = P ++ (X ++ (x :: X2)) ++ M ++ (Y ++ (y :: Y2)) ++ S := by simp
    rw [swR, e1, hI]
    have e2 : P ++ (Y ++ x :: X2) ++ M ++ (X ++ y :: Y2) ++ S = (P ++ Y) ++ x :: ((X2 ++ M ++ X) ++ y :: (Y2 ++ S)) := by simp
    rw [e2, swF_eq _ _ _ _ _ (by simp; omega) (by simp; omega)]
    simp
theorem swR_eq (P X M Y S : List Fld) {a b n : Nat} (hx : X.length = n) (hy : Y.length = n) (ha : a = P.length) (hb : b = a + n + M.length) : swR (P ++ X ++ M ++ Y ++ S) a b n = P ++ Y ++ M ++ X ++ S := by
  have := swR_some P M S n X [] Y [] a b hx hy ha (by simpa using hb)
  simpa using this

/-! ### Merging -/
section
variable {α : Type} (lt : α → α → Bool)
/-- x goes behind those that aren't greater. -/
def ins (x : α) : List α → List α
  | [] => [x]
  | y :: l => if lt x y then x :: y :: l else y :: ins x l
/-- Sorted, one goes in behind the other. -/
def srt (l : List α) : List α := l.foldl (fun acc x => ins lt x acc) []
/-- Two sorted lists merged; of equals those of the first one come first. -/
def mrg : List α → List α → List α
  | [], r => r
  | x :: l, [] => x :: l
  | x :: l, y :: r => if lt y x then y :: mrg (x :: l) r else x :: mrg l (y :: r)
termination_by l r => l.length + r.length

structure Ord : Prop where
  asym : ∀ x y, lt x y = true → lt y x = false
  neg : ∀ x y z, lt x y = true → lt x z = true ∨ lt z y = true
/-- It rises. -/
def Ris (l : List α) : Prop := l.Pairwise fun x y => lt y x = false
variable {lt}
theorem mrg_nil (l : List α) : mrg lt l [] = l := by cases l <;> simp [mrg]
theorem nil_mrg (l : List α) : mrg lt [] l = l := by simp [mrg]
theorem Ord.tr (o : Ord lt) {x y z : α} (h : lt x y = true) (k : lt y z = true) : lt x z = true := by
  rcases o.neg x y z h with h1 | h1
  · exact h1
  · have := o.asym _ _ k; rw [this] at h1; cases h1
theorem Ord.le_tr (o : Ord lt) {x y z : α} (h : lt y x = false) (k : lt z y = false) : lt z x = false := by
  cases hx : lt z x with
  | false => rfl
  | true =>
    rcases o.neg z x y hx with h1 | h1
    · rw [h1] at k; cases k
    · rw [h1] at h; cases h
theorem Ord.irr (o : Ord lt) (x : α) : lt x x = false := by
  cases h : lt x x with
  | false => rfl
  | true => have := o.asym _ _ h; rw [this] at h; cases h
theorem Ris.cons {x : α} {l : List α} : Ris lt (x :: l) ↔ (∀ y ∈ l, lt y x = false) ∧ Ris lt l := List.pairwise_cons
theorem mem_ins {x z : α} : ∀ {l : List α}, z ∈ ins lt x l ↔ z = x ∨ z ∈ l
  | [] => by simp [ins]
  | y :: l => by
    unfold ins; split
    · simp
    · simp only [List.mem_cons, mem_ins]; constructor
      · rintro (h | h | h) <;> simp [h]
      · rintro (h | h | h) <;> simp [h]
theorem ris_ins (o : Ord lt) {x : α} : ∀ {l : List α}, Ris lt l → Ris lt (ins lt x l)
  | [], _ => by simp [ins, Ris]
  | y :: l, h => by
    obtain ⟨h1, h2⟩ := Ris.cons.1 h
    unfold ins
    cases hxy : lt x y with
    | true =>
      rw [if_pos rfl]
      refine Ris.cons.2 ⟨fun z hz => ?_, h⟩
      rcases List.mem_cons.1 hz with rfl | hz
      · exact o.asym _ _ hxy
      · exact o.le_tr (o.asym _ _ hxy) (h1 z hz)
    | false =>
      rw [if_neg (by simp)]
      refine Ris.cons.2 ⟨fun z hz => ?_, ris_ins o h2⟩
      rcases mem_ins.1 hz with rfl | hz
      · exact hxy
      · exact h1 z hz
theorem length_ins {x : α} : ∀ {l : List α}, (ins lt x l).length = l.length + 1
  | [] => rfl
  | y :: l => by unfold ins; split <;> simp [length_ins]
theorem srt_snoc (l : List α) (x : α) : srt lt (l ++ [x]) = ins lt x (srt lt l) := by simp [srt, List.foldl_append]
theorem ris_srt (o : Ord lt) (l : List α) : Ris lt (srt lt l) := by
  have : ∀ (l acc : List α), Ris lt acc → Ris lt (l.foldl (fun acc x => ins lt x acc) acc) := by
    intro l
    induction l with
    | nil => intro acc h; exact h
    | cons x l ih => intro acc h; exact ih _ (ris_ins o h)
  exact this l [] List.Pairwise.nil
theorem length_srt (l : List α) : (srt lt l).length = l.length := by
  have : ∀ (l acc : List α), (l.foldl (fun acc x => ins lt x acc) acc).length = acc.length + l.length := by
    intro l
    induction l with
    | nil => intro acc; simp
    | cons x l ih => intro acc; rw [List.foldl_cons, ih, length_ins]; simp; omega
  have := this l []
  simpa [srt] using this
theorem mrg_mem {z : α} : ∀ {l r : List α}, z ∈ mrg lt l r ↔ z ∈ l ∨ z ∈ r
  | [], r => by simp [mrg]
  | x :: l, [] => by simp [mrg]
  | x :: l, y :: r => by
    unfold mrg
    split
    · rw [List.mem_cons, mrg_mem]; simp only [List.mem_cons]; constructor
      · rintro (h | (h | h) | h) <;> simp [h]
      · rintro ((h | h) | h | h) <;> simp [h]
    · rw [List.mem_cons, mrg_mem]; simp only [List.mem_cons]; constructor
      · rintro (h | h | h | h) <;> simp [h]
      · rintro ((h | h) | h | h) <;> simp [h]
termination_by l r => l.length + r.length
theorem length_mrg : ∀ (l r : List α), (mrg lt l r).length = l.length + r.length
  | [], r => by simp [mrg]
  | x :: l, [] => by simp [mrg]
  | x :: l, y :: r => by
    unfold mrg
    split
    · rw [List.length_cons, length_mrg (x :: l) r]; simp; omega
    · rw [List.length_cons, length_mrg l (y :: r)]; simp; omega
termination_by l r => l.length + r.length
/-- Where each of r1 is less than each of l2, and none of r2 is less than one of l1, the two halves are merged apart. -/
theorem mrg_split (l2 r2 : List α) : ∀ (l1 r1 : List α), (∀ x ∈ r1, ∀ y ∈ l2, lt x y = true) → (∀ x ∈ r2, ∀ y ∈ l1, lt x y = false) → mrg lt (l1 ++ l2) (r1 ++ r2) = mrg lt l1 r1 ++ mrg lt l2 r2
  | [], [], _, _ => by simp [mrg]
  | [], y :: r1, h1, h2 => by
    rw [nil_mrg, List.nil_append]
    cases l2 with
    | nil => rw [nil_mrg, nil_mrg]
    | cons x l2 =>
      have h3 := h1 y (by simp) x (by simp)
      have hI := mrg_split (x :: l2) r2 [] r1 (fun a ha b hb => h1 a (by simp [ha]) b hb) (fun a ha b hb => by cases hb)
      rw [nil_mrg, List.nil_append] at hI
      rw [List.cons_append, mrg, if_pos h3, hI]; rfl
  | x :: l1, [], h1, h2 => by
    rw [mrg_nil, List.nil_append]
    cases r2 with
    | nil => rw [mrg_nil, mrg_nil]
    | cons y r2 =>
      have h3 := h2 y (by simp) x (by simp)
      have hI := mrg_split l2 (y :: r2) l1 [] (fun a ha b hb => by cases ha) (fun a ha b hb => h2 a ha b (by simp [hb]))
      rw [mrg_nil, List.nil_append] at hI
      rw [List.cons_append, mrg, if_neg (by simp [h3]), hI]; rfl
  | x :: l1, y :: r1, h1, h2 => by
    rw [List.cons_append, List.cons_append, mrg, mrg]
    split
    · have hI := mrg_split l2 r2 (x :: l1) r1 (fun a ha b hb => h1 a (by simp [ha]) b hb) h2
      rw [List.cons_append] at hI
      rw [hI]; rfl
    · have hI := mrg_split l2 r2 l1 (y :: r1) h1 (fun a ha b hb => h2 a ha b (by simp [hb]))
      rw [List.cons_append] at hI
      rw [hI]; rfl
termination_by l1 r1 => l1.length + r1.length
/-- One goes in where its equals of both lists are ahead of it. -/
theorem ins_mrg (o : Ord lt) (z : α) : ∀ (l r : List α), Ris lt l → Ris lt r → ins lt z (mrg lt l r) = mrg lt l (ins lt z r)
  | [], r, _, _ => by rw [nil_mrg, nil_mrg]
  | x :: l, [], hl, _ => by
    rw [mrg_nil, ins, ins, mrg]
    obtain ⟨h1, h2⟩ := Ris.cons.1 hl
    cases hzx : lt z x with
    | true => rw [if_pos rfl, if_pos rfl, mrg_nil]
    | false =>
      rw [if_neg (by simp), if_neg (by simp)]
      have := ins_mrg o z l [] h2 List.Pairwise.nil
      rw [mrg_nil, ins] at this
      rw [this]
  | x :: l, y :: r, hl, hr => by
    obtain ⟨a1, a2⟩ := Ris.cons.1 hl
    obtain ⟨b1, b2⟩ := Ris.cons.1 hr
    cases hyx : lt y x with
    | true =>
      rw [mrg, if_pos hyx, ins]
      cases hzy : lt z y with
      | true =>
        rw [if_pos rfl, ins, if_pos hzy, mrg, if_pos (o.tr hzy hyx), mrg, if_pos hyx]
      | false =>
        rw [if_neg (by simp), ins, if_neg (by simp [hzy]), mrg, if_pos hyx, ins_mrg o z (x :: l) r hl b2]
    | false =>
      rw [mrg, if_neg (by simp [hyx]), ins]
      cases hzx : lt z x with
      | true =>
        have hzy : lt z y = true := by
          rcases o.neg z x y hzx with h | h
          · exact h
          · rw [h] at hyx; cases hyx
        rw [if_pos rfl, ins, if_pos hzy, mrg, if_pos hzx, mrg, if_neg (by simp [hyx])]
      | false =>
        rw [if_neg (by simp), ins_mrg o z l (y :: r) a2 hr, ins]
        cases hzy : lt z y with
        | true => rw [if_pos rfl, mrg, if_neg (by simp [hzx])]
        | false => rw [if_neg (by simp), mrg, if_neg (by simp [hyx])]
termination_by l r => l.length + r.length
theorem srt_append (o : Ord lt) (a b : List α) : srt lt (a ++ b) = mrg lt (srt lt a) (srt lt b) := by
  have key : ∀ (n : Nat) (b : List α), b.length = n → srt lt (a ++ b) = mrg lt (srt lt a) (srt lt b) := by
    intro n
    induction n with
    | zero => intro b hb; obtain rfl := List.length_eq_zero_iff.1 hb; simp [srt, mrg_nil]
    | succ n ih =>
      intro b hb
      obtain ⟨c, x, rfl⟩ : ∃ c x, b = c ++ [x] := ⟨b.dropLast, b.getLast (by intro e; rw [e] at hb; simp at hb), (List.dropLast_concat_getLast _).symm⟩
      rw [← List.append_assoc, srt_snoc, srt_snoc, ih c (by simpa using hb), ins_mrg o _ _ _ (ris_srt o _) (ris_srt o _)]
  exact key _ b rfl
theorem ris_mrg (o : Ord lt) : ∀ (l r : List α), Ris lt l → Ris lt r → Ris lt (mrg lt l r)
  | [], r, _, h => by rw [nil_mrg]; exact h
  | x :: l, [], h, _ => by rw [mrg_nil]; exact h
  | x :: l, y :: r, hl, hr => by
    obtain ⟨a1, a2⟩ := Ris.cons.1 hl
    obtain ⟨b1, b2⟩ := Ris.cons.1 hr
    rw [mrg]
    cases hyx : lt y x with
    | true =>
      rw [if_pos rfl]
      refine Ris.cons.2 ⟨fun z hz => ?_, ris_mrg o _ _ hl b2⟩
      rcases mrg_mem.1 hz with hz | hz
      · rcases List.mem_cons.1 hz with rfl | hz
        · exact o.asym _ _ hyx
        · exact o.le_tr (o.asym _ _ hyx) (a1 z hz)
      · exact b1 z hz
    | false =>
      rw [if_neg (by simp)]
      refine Ris.cons.2 ⟨fun z hz => ?_, ris_mrg o _ _ a2 hr⟩
      rcases mrg_mem.1 hz with hz | hz
      · exact a1 z hz
      · rcases List.mem_cons.1 hz with rfl | hz
        · exact hyx
        · exact o.le_tr hyx (b1 z hz)
termination_by l r => l.length + r.length
/-- One alone goes behind those of r that are less than it. -/
theorem one_mrg (x : α) (r1 r2 : List α) (h1 : ∀ y ∈ r1, lt y x = true) (h2 : ∀ y ∈ r2, lt y x = false) : mrg lt [x] (r1 ++ r2) = r1 ++ x :: r2 := by
  have := mrg_split (lt := lt) [x] [] [] r1 (fun a ha b hb => by simp at hb; subst hb; exact h1 a ha) (fun a ha => by cases ha)
  have h3 := mrg_split (lt := lt) [] r2 [x] [] (fun a ha => by cases ha) (fun a ha b hb => by simp at hb; subst hb; exact h2 a ha)
  have h4 := mrg_split (lt := lt) [x] r2 [] r1 (fun a ha b hb => by simp at hb; subst hb; exact h1 a ha) (fun a ha b hb => by cases hb)
  rw [List.nil_append, nil_mrg] at h4
  rw [h4]
  simp only [List.append_nil, List.nil_append, mrg_nil, nil_mrg] at h3
  rw [h3]; rfl
/-- One alone goes behind those of l that aren't greater. -/
theorem mrg_one (y : α) (l1 l2 : List α) (h1 : ∀ x ∈ l1, lt y x = false) (h2 : ∀ x ∈ l2, lt y x = true) : mrg lt (l1 ++ l2) [y] = l1 ++ y :: l2 := by
  have h4 := mrg_split (lt := lt) l2 [] l1 [y] (fun a ha b hb => by simp at ha; subst ha; exact h2 b hb) (fun a ha => by cases ha)
  have h3 := mrg_split (lt := lt) [] [y] l1 [] (fun a ha => by cases ha) (fun a ha b hb => by simp at ha; subst ha; exact h1 b hb)
  rw [List.append_nil, mrg_nil] at h4
  rw [h4]
  simp only [List.append_nil, List.nil_append, mrg_nil, nil_mrg] at h3
  rw [h3]; simp
end
end Go.Proofs.Ytaaohaihajccgaa
