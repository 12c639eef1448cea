/- A list of fields in memory, field by field. -/
import Derived.Test.YtmjijmkdeblefaaKdO
import Derived.BigRegion
import Derived.IntWalk
import Derived.Deep.RegionHeld3
namespace Go.Proofs.Ytmjijmkdeblefaa
open Go.RowKit LM
set_option linter.unusedVariables false

theorem fldCells_get (l : List Fld) : ∀ (i c : Nat), c < 5 → (fldCells l)[i * 5 + c]? = l[i]?.bind fun f => f.enc[c]? := by
  induction l with
  | nil => intro i c hc; simp [fldCells]
  | cons f l ih =>
    intro i c hc
    have hl : f.enc.length = 5 := rfl
    simp only [fldCells, List.flatMap_cons] at ih ⊢
    cases i with
    | zero => rw [List.getElem?_append_left (by rw [hl]; omega)]; simp
    | succ i =>
      rw [List.getElem?_append_right (by rw [hl]; omega), hl, show (i + 1) * 5 + c - 5 = i * 5 + c by omega, ih i c hc]
      simp
/-- A field is laid at o. -/
def World.set5 (W : World) (g o : Nat) (f : Fld) : World :=
  ((((W.setCell ⟨g, o, none⟩ (.string f.name)).setCell ⟨g, o + 1, none⟩ (.int .u8 f.h.op)).setCell ⟨g, o + 2, none⟩ (.string f.h.name)).setCell ⟨g, o + 3, none⟩ (.int .i64 f.h.n)).setCell ⟨g, o + 4, none⟩ (.slice f.q f.k.len f.cap)
theorem grown_again {A B C : World} {r : Nat} (a : A.grownBy B (some r)) (b : B.grownBy C (some r)) : A.grownBy C (some r) :=
  ⟨b.os.trans a.os, b.tape.trans a.tape, b.output.trans a.output, Nat.le_trans a.size b.size, fun k hk hne => (b.block k (Nat.lt_of_lt_of_le hk a.size) hne).trans (a.block k hk hne)⟩
theorem grown_set (W : World) (b i : Nat) (v : Value) : W.grownBy (W.setCell ⟨b, i, none⟩ v) (some b) :=
  ⟨rfl, rfl, rfl, by simp, fun k _ hk => Below.heap_setCell _ _ _ k (fun e => hk (by rw [e]))⟩
theorem set5_grown (W : World) (g o : Nat) (f : Fld) : W.grownBy (World.set5 W g o f) (some g) := by
  unfold World.set5
  exact grown_again (grown_again (grown_again (grown_again (grown_set _ _ _ _) (grown_set _ _ _ _)) (grown_set _ _ _ _)) (grown_set _ _ _ _)) (grown_set _ _ _ _)
theorem set5_row {W : World} {g : Nat} {cs : Array Value} {t : TypeId} (h : W.heap[g]? = some (.cells cs t (0, 0))) (o : Nat) (f : Fld) :
    (World.set5 W g o f).heap[g]? = some (.cells (((((cs.setIfInBounds o (.string f.name)).setIfInBounds (o + 1) (.int .u8 f.h.op)).setIfInBounds (o + 2) (.string f.h.name)).setIfInBounds (o + 3) (.int .i64 f.h.n)).setIfInBounds (o + 4) (.slice f.q f.k.len f.cap)) t (0, 0)) :=
  row_set (row_set (row_set (row_set (row_set h o _) _ _) _ _) _ _) _ _

/-- The slice's array reads as the fields fs. -/
def FlAt (W : World) (B g cap : Nat) (fs : List Fld) : Prop := W.ownsRow B 40 5 (.slice (some ⟨g, 0, none⟩) fs.length cap) fs.length (fldCells fs)
theorem FlAt.parts {W : World} {B g cap : Nat} {fs : List Fld} (h : FlAt W B g cap fs) : ∃ cur, B ≤ g ∧ W.heap[g]? = some (.cells cur 40 (0, 0)) ∧ fs.length ≤ cap ∧ cap ≤ maxLen ∧ cur.size = cap * 5 ∧ cur.toList.take (fs.length * 5) = fldCells fs := by
  rcases h.2 with ⟨h0, _⟩ | ⟨g', cap', cur, e, hb, hg, hc, hm, hs, ht⟩
  · cases h0
  · cases e; exact ⟨cur, hb, hg, hc, hm, hs, ht⟩
theorem FlAt.lt {W : World} {B g cap : Nat} {fs : List Fld} (h : FlAt W B g cap fs) : g < W.heap.size := by
  obtain ⟨cur, _, hg, _⟩ := h.parts; exact (Array.getElem?_eq_some_iff.1 hg).1
theorem FlAt.frozen {W : World} {B g cap : Nat} {fs : List Fld} (h : FlAt W B g cap fs) (o : Nat) : W.frozen? ⟨g, o, none⟩ = false := by
  obtain ⟨cur, _, hg, _⟩ := h.parts; simp [World.frozen?, hg]
theorem FlAt.cell {W : World} {B g cap : Nat} {fs : List Fld} (h : FlAt W B g cap fs) {i : Nat} (hi : i < fs.length) {c : Nat} (hc : c < 5) : W.cell? ⟨g, i * 5 + c, none⟩ = fs[i].enc[c]? := by
  obtain ⟨cur, _, hg, _, _, _, ht⟩ := h.parts
  have e1 := fldCells_get fs i c hc
  rw [← ht, List.getElem?_take, if_pos (by have := Nat.mul_le_mul_right 5 (show i + 1 ≤ fs.length from hi); omega)] at e1
  simp only [World.cell?, hg]
  rw [List.getElem?_eq_getElem hi] at e1
  simpa using e1
theorem FlAt.cells {W : World} {B g cap : Nat} {fs : List Fld} (h : FlAt W B g cap fs) {i : Nat} (hi : i < fs.length) :
    W.cell? ⟨g, i * 5, none⟩ = some (.string fs[i].name) ∧ W.cell? ⟨g, i * 5 + 1, none⟩ = some (.int .u8 fs[i].h.op) ∧ W.cell? ⟨g, i * 5 + 2, none⟩ = some (.string fs[i].h.name) ∧ W.cell? ⟨g, i * 5 + 3, none⟩ = some (.int .i64 fs[i].h.n) ∧ W.cell? ⟨g, i * 5 + 4, none⟩ = some (.slice fs[i].q fs[i].k.len fs[i].cap) :=
  ⟨h.cell hi (c := 0) (by omega), h.cell hi (c := 1) (by omega), h.cell hi (c := 2) (by omega), h.cell hi (c := 3) (by omega), h.cell hi (c := 4) (by omega)⟩
theorem FlAt.kept {W W' : World} {B g cap : Nat} {fs : List Fld} (h : FlAt W B g cap fs) (hb : Below W.heap.size W W') : FlAt W' B g cap fs :=
  World.ownsRow.kept h (row := none) ⟨hb.os, hb.tape, hb.output, hb.size, fun k hk _ => hb.block k hk⟩ (.inr (by simp [Value.ownBlock]))

theorem get_set5 {cs : Array Value} {o t : Nat} {v0 v1 v2 v3 v4 : Value} (ho : o + 4 < cs.size) :
    (((((cs.setIfInBounds o v0).setIfInBounds (o + 1) v1).setIfInBounds (o + 2) v2).setIfInBounds (o + 3) v3).setIfInBounds (o + 4) v4)[t]? =
      if o ≤ t ∧ t < o + 5 then [v0, v1, v2, v3, v4][t - o]? else cs[t]? := by
  simp only [Array.getElem?_setIfInBounds, Array.size_setIfInBounds]
  by_cases h : o ≤ t ∧ t < o + 5
  · rw [if_pos h]
    obtain ⟨c, rfl⟩ : ∃ c, t = o + c := ⟨t - o, by omega⟩
    have hc : c = 0 ∨ c = 1 ∨ c = 2 ∨ c = 3 ∨ c = 4 := by omega
    rcases hc with rfl | rfl | rfl | rfl | rfl
    · rw [if_neg (by omega), if_neg (by omega), if_neg (by omega), if_neg (by omega), if_pos (by omega), if_pos (by omega)]; simp
    · rw [if_neg (by omega), if_neg (by omega), if_neg (by omega), if_pos (by omega), if_pos (by omega)]; simp
    · rw [if_neg (by omega), if_neg (by omega), if_pos (by omega), if_pos (by omega)]; simp
    · rw [if_neg (by omega), if_pos (by omega), if_pos (by omega)]; simp
    · rw [if_pos (by omega), if_pos (by omega)]; simp
  · rw [if_neg h, if_neg (by omega), if_neg (by omega), if_neg (by omega), if_neg (by omega), if_neg (by omega)]

theorem FlAt.set {W : World} {B g cap : Nat} {fs : List Fld} (h : FlAt W B g cap fs) {i : Nat} (hi : i < fs.length) (f : Fld) : FlAt (World.set5 W g (i * 5) f) B g cap (fs.set i f) := by
  obtain ⟨cur, hb, hg, hc, hm, hs, ht⟩ := h.parts
  have hi5 : i * 5 + 5 ≤ fs.length * 5 := by have := Nat.mul_le_mul_right 5 (show i + 1 ≤ fs.length from hi); omega
  have hc5 : fs.length * 5 ≤ cap * 5 := Nat.mul_le_mul_right 5 hc
  unfold FlAt
  rw [List.length_set]
  refine ⟨by rw [length_fldCells, List.length_set], .inr ⟨g, cap, _, rfl, hb, set5_row hg (i * 5) f, hc, hm, by simp [hs], ?_⟩⟩
  apply List.ext_getElem?
  intro t
  by_cases htn : t < fs.length * 5
  · rw [List.getElem?_take_of_lt htn, Array.getElem?_toList, get_set5 (by omega)]
    have e1 := fldCells_get (fs.set i f) (t / 5) (t % 5) (by omega)
    have e2 := fldCells_get fs (t / 5) (t % 5) (by omega)
    rw [show t / 5 * 5 + t % 5 = t by omega] at e1 e2
    rw [e1, List.getElem?_set]
    by_cases h5 : i * 5 ≤ t ∧ t < i * 5 + 5
    · rw [if_pos h5, if_pos (by omega), if_pos hi]
      have : t - i * 5 = t % 5 := by omega
      rw [this]
      rfl
    · rw [if_neg h5, if_neg (by omega), ← e2, ← ht, List.getElem?_take_of_lt htn, Array.getElem?_toList]
  · rw [List.getElem?_eq_none (by simp; omega), List.getElem?_eq_none (by rw [length_fldCells, List.length_set]; omega)]

/-- Two fields change places. -/
def swF (fs : List Fld) (i j : Nat) : List Fld := (fs.set i (fs.getD j default)).set j (fs.getD i default)
theorem length_swF (fs : List Fld) (i j : Nat) : (swF fs i j).length = fs.length := by simp [swF]
theorem FlAt.swap {W : World} {B g cap : Nat} {fs : List Fld} (h : FlAt W B g cap fs) {i j : Nat} (hi : i < fs.length) (hj : j < fs.length) :
    FlAt (World.set5 (World.set5 W g (i * 5) fs[j]) g (j * 5) fs[i]) B g cap (swF fs i j) ∧ W.grownBy (World.set5 (World.set5 W g (i * 5) fs[j]) g (j * 5) fs[i]) (some g) := by
  refine ⟨?_, ?_⟩
  · have := (h.set hi fs[j]).set (i := j) (by simpa using hj) fs[i]
    unfold swF
    rw [List.getD_eq_getElem?_getD, List.getD_eq_getElem?_getD, List.getElem?_eq_getElem hi, List.getElem?_eq_getElem hj]
    exact this
  · exact grown_again (set5_grown _ _ _ _) (set5_grown _ _ _ _)
end Go.Proofs.Ytmjijmkdeblefaa

/- The stable sort of fields: lists, plain. -/
namespace Go.Proofs.Ytmjijmkdeblefaa
open Go.RowKit LM
set_option linter.unusedVariables false

/-- k exchanges of fields, one behind the other. -/
def swR (fs : List Fld) (a b : Nat) : Nat → List Fld
  | 0 => fs
  | k + 1 => swF (swR fs a b k) (a + k) (b + k)
theorem length_swR (fs : List Fld) (a b : Nat) : ∀ k, (swR fs a b k).length = fs.length
  | 0 => rfl
  | k + 1 => by rw [swR, length_swF, length_swR fs a b k]
theorem swF_eq (A B C : List Fld) (x y : Fld) {i j : Nat} (hi : i = A.length) (hj : j = A.length + 1 + B.length) : swF (A ++ x :: (B ++ y :: C)) i j = A ++ y :: (B ++ x :: C) := by
  subst hi hj
  have g1 : (A ++ x :: (B ++ y :: C)).getD A.length default = x := by simp [List.getD_eq_getElem?_getD]
  have g2 : (A ++ x :: (B ++ y :: C)).getD (A.length + 1 + B.length) default = y := by
    rw [List.getD_eq_getElem?_getD, List.getElem?_append_right (by omega), show A.length + 1 + B.length - A.length = B.length + 1 by omega, List.getElem?_cons_succ, List.getElem?_append_right (by omega)]
    simp
  unfold swF
  rw [g1, g2, List.set_append_right _ _ (by omega), Nat.sub_self, List.set_cons_zero, List.set_append_right _ _ (by omega), show A.length + 1 + B.length - A.length = B.length + 1 by omega, List.set_cons_succ, List.set_append_right _ _ (by omega), Nat.sub_self, List.set_cons_zero]
theorem swR_some (P M S : List Fld) : ∀ (k : Nat) (X1 X2 Y1 Y2 : List Fld) (a b : Nat), X1.length = k → Y1.length = k → a = P.length → b = a + k + X2.length + M.length →
    swR (P ++ (X1 ++ X2) ++ M ++ (Y1 ++ Y2) ++ S) a b k = P ++ (Y1 ++ X2) ++ M ++ (X1 ++ Y2) ++ S := by
  intro k
  induction k with
  | zero =>
    intro X1 X2 Y1 Y2 a b hx hy _ _
    obtain rfl := List.length_eq_zero_iff.1 hx
    obtain rfl := List.length_eq_zero_iff.1 hy
    rfl
  | succ k ih =>
    intro X1 X2 Y1 Y2 a b hx hy ha hb
    obtain ⟨X, x, rfl⟩ : ∃ X x, X1 = X ++ [x] := ⟨X1.dropLast, X1.getLast (by intro e; rw [e] at hx; simp at hx), (List.dropLast_concat_getLast _).symm⟩
    obtain ⟨Y, y, rfl⟩ : ∃ Y y, Y1 = Y ++ [y] := ⟨Y1.dropLast, Y1.getLast (by intro e; rw [e] at hy; simp at hy), (List.dropLast_concat_getLast _).symm⟩
    simp only [List.length_append, List.length_cons, List.length_nil] at hx hy
    have hI := ih X (x :: X2) Y (y :: Y2) a b (by omega) (by omega) ha (by simp; omega)
    have e1 : P ++ (X ++ [x] ++ X2) ++ M ++ (Y ++ [y] ++ Y2) ++ S = P ++ (X ++ (x :: X2)) ++ M ++ (Y ++ (y :: Y2)) ++ S := by simp
    rw [swR, e1, hI]
    have e2 : P ++ (Y ++ x :: X2) ++ M ++ (X ++ y :: Y2) ++ S = (P ++ Y) ++ x :: ((X2 ++ M ++ X) ++ y :: (Y2 ++ S)) := by simp
    rw [e2, swF_eq _ _ _ _ _ (by simp; omega) (by simp; omega)]
    simp
theorem swR_eq (P X M Y S : List Fld) {a b n : Nat} (hx : X.length = n) (hy : Y.length = n) (ha : a = P.length) (hb : b = a + n + M.length) : swR (P ++ X ++ M ++ Y ++ S) a b n = P ++ Y ++ M ++ X ++ S := by
  have := swR_some P M S n X [] Y [] a b hx hy ha (by simpa using hb)
  simpa using this

/-! ### Merging -/
section
variable {α : Type} (lt : α → α → Bool)
/-- x goes behind those that aren't greater. -/
def ins (x : α) : List α → List α
  | [] => [x]
  | y :: l => if lt x y then x :: y :: l else y :: ins x l
/-- Sorted, one goes in behind the other. -/
def srt (l : List α) : List α := l.foldl (fun acc x => ins lt x acc) []
/-- Two sorted lists merged; of equals those of the first one come first. -/
def mrg : List α → List α → List α
  | [], r => r
  | x :: l, [] => x :: l
  | x :: l, y :: r => if lt y x then y :: mrg (x :: l) r else x :: mrg l (y :: r)
termination_by l r => l.length + r.length

structure Ord : Prop where
  asym : ∀ x y, lt x y = true → lt y x = false
  neg : ∀ x y z, lt x y = true → lt x z = true ∨ lt z y = true
/-- It rises. -/
def Ris (l : List α) : Prop := l.Pairwise fun x y => lt y x = false
variable {lt}
theorem mrg_nil (l : List α) : mrg lt l [] = l := by cases l <;> simp [mrg]
theorem nil_mrg (l : List α) : mrg lt [] l = l := by simp [mrg]
theorem Ord.tr (o : Ord lt) {x y z : α} (h : lt x y = true) (k : lt y z = true) : lt x z = true := by
  rcases o.neg x y z h with h1 | h1
  · exact h1
  · have := o.asym _ _ k; rw [this] at h1; cases h1
theorem Ord.le_tr (o : Ord lt) {x y z : α} (h : lt y x = false) (k : lt z y = false) : lt z x = false := by
  cases hx : lt z x with
  | false => rfl
  | true =>
    rcases o.neg z x y hx with h1 | h1
    · rw [h1] at k; cases k
    · rw [h1] at h; cases h
theorem Ord.irr (o : Ord lt) (x : α) : lt x x = false := by
  cases h : lt x x with
  | false => rfl
  | true => have := o.asym _ _ h; rw [this] at h; cases h
theorem Ris.cons {x : α} {l : List α} : Ris lt (x :: l) ↔ (∀ y ∈ l, lt y x = false) ∧ Ris lt l := List.pairwise_cons
theorem mem_ins {x z : α} : ∀ {l : List α}, z ∈ ins lt x l ↔ z = x ∨ z ∈ l
  | [] => by simp [ins]
  | y :: l => by
    unfold ins; split
    · simp
    · simp only [List.mem_cons, mem_ins]; constructor
      · rintro (h | h | h) <;> simp [h]
      · rintro (h | h | h) <;> simp [h]
theorem ris_ins (o : Ord lt) {x : α} : ∀ {l : List α}, Ris lt l → Ris lt (ins lt x l)
  | [], _ => by simp [ins, Ris]
  | y :: l, h => by
    obtain ⟨h1, h2⟩ := Ris.cons.1 h
    unfold ins
    cases hxy : lt x y with
    | true =>
      rw [if_pos rfl]
      refine Ris.cons.2 ⟨fun z hz => ?_, h⟩
      rcases List.mem_cons.1 hz with rfl | hz
      · exact o.asym _ _ hxy
      · exact o.le_tr (o.asym _ _ hxy) (h1 z hz)
    | false =>
      rw [if_neg (by simp)]
      refine Ris.cons.2 ⟨fun z hz => ?_, ris_ins o h2⟩
      rcases mem_ins.1 hz with rfl | hz
      · exact hxy
      · exact h1 z hz
theorem length_ins {x : α} : ∀ {l : List α}, (ins lt x l).length = l.length + 1
  | [] => rfl
  | y :: l => by unfold ins; split <;> simp [length_ins]
theorem srt_snoc (l : List α) (x : α) : srt lt (l ++ [x]) = ins lt x (srt lt l) := by simp [srt, List.foldl_append]
theorem ris_srt (o : Ord lt) (l : List α) : Ris lt (srt lt l) := by
  have : ∀ (l acc : List α), Ris lt acc → Ris lt (l.foldl (fun acc x => ins lt x acc) acc) := by
    intro l
    induction l with
    | nil => intro acc h; exact h
    | cons x l ih => intro acc h; exact ih _ (ris_ins o h)
  exact this l [] List.Pairwise.nil
theorem length_srt (l : List α) : (srt lt l).length = l.length := by
  have : ∀ (l acc : List α), (l.foldl (fun acc x => ins lt x acc) acc).length = acc.length + l.length := by
    intro l
    induction l with
    | nil => intro acc; simp
    | cons x l ih => intro acc; rw [List.foldl_cons, ih, length_ins]; simp; omega
  have := this l []
  simpa [srt] using this
theorem mrg_mem {z : α} : ∀ {l r : List α}, z ∈ mrg lt l r ↔ z ∈ l ∨ z ∈ r
  | [], r => by simp [mrg]
  | x :: l, [] => by simp [mrg]
  | x :: l, y :: r => by
    unfold mrg
    split
    · rw [List.mem_cons, mrg_mem]; simp only [List.mem_cons]; constructor
      · rintro (h | (h | h) | h) <;> simp [h]
      · rintro ((h | h) | h | h) <;> simp [h]
    · rw [List.mem_cons, mrg_mem]; simp only [List.mem_cons]; constructor
      · rintro (h | h | h | h) <;> simp [h]
      · rintro ((h | h) | h | h) <;> simp [h]
termination_by l r => l.length + r.length
theorem length_mrg : ∀ (l r : List α), (mrg lt l r).length = l.length + r.length
  | [], r => by simp [mrg]
  | x :: l, [] => by simp [mrg]
  | x :: l, y :: r => by
    unfold mrg
    split
    · rw [List.length_cons, length_mrg (x :: l) r]; simp; omega
    · rw [List.length_cons, length_mrg l (y :: r)]; simp; omega
termination_by l r => l.length + r.length
/-- Where each of r1 is less than each of l2, and none of r2 is less than one of l1, the two halves are merged apart. -/
theorem mrg_split (l2 r2 : List α) : ∀ (l1 r1 : List α), (∀ x ∈ r1, ∀ y ∈ l2, lt x y = true) → (∀ x ∈ r2, ∀ y ∈ l1, lt x y = false) → mrg lt (l1 ++ l2) (r1 ++ r2) = mrg lt l1 r1 ++ mrg lt l2 r2
  | [], [], _, _ => by simp [mrg]
  | [], y :: r1, h1, h2 => by
    rw [nil_mrg, List.nil_append]
    cases l2 with
    | nil => rw [nil_mrg, nil_mrg]
    | cons x l2 =>
      have h3 := h1 y (by simp) x (by simp)
      have hI := mrg_split (x :: l2) r2 [] r1 (fun a ha b hb => h1 a (by simp [ha]) b hb) (fun a ha b hb => by cases hb)
      rw [nil_mrg, List.nil_append] at hI
      rw [List.cons_append, mrg, if_pos h3, hI]; rfl
  | x :: l1, [], h1, h2 => by
    rw [mrg_nil, List.nil_append]
    cases r2 with
    | nil => rw [mrg_nil, mrg_nil]
    | cons y r2 =>
      have h3 := h2 y (by simp) x (by simp)
      have hI := mrg_split l2 (y :: r2) l1 [] (fun a ha b hb => by cases ha) (fun a ha b hb => h2 a ha b (by simp [hb]))
      rw [mrg_nil, List.nil_append] at hI
      rw [List.cons_append, mrg, if_neg (by simp [h3]), hI]; rfl
  | x :: l1, y :: r1, h1, h2 => by
    rw [List.cons_append, List.cons_append, mrg, mrg]
    split
    · have hI := mrg_split l2 r2 (x :: l1) r1 (fun a ha b hb => h1 a (by simp [ha]) b hb) h2
      rw [List.cons_append] at hI
      rw [hI]; rfl
    · have hI := mrg_split l2 r2 l1 (y :: r1) h1 (fun a ha b hb => h2 a ha b (by simp [hb]))
      rw [List.cons_append] at hI
      rw [hI]; rfl
termination_by l1 r1 => l1.length + r1.length
/-- One goes in where its equals of both lists are ahead of it. -/
theorem ins_mrg (o : Ord lt) (z : α) : ∀ (l r : List α), Ris lt l → Ris lt r → ins lt z (mrg lt l r) = mrg lt l (ins lt z r)
  | [], r, _, _ => by rw [nil_mrg, nil_mrg]
  | x :: l, [], hl, _ => by
    rw [mrg_nil, ins, ins, mrg]
    obtain ⟨h1, h2⟩ := Ris.cons.1 hl
    cases hzx : lt z x with
    | true => rw [if_pos rfl, if_pos rfl, mrg_nil]
    | false =>
      rw [if_neg (by simp), if_neg (by simp)]
      have := ins_mrg o z l [] h2 List.Pairwise.nil
      rw [mrg_nil, ins] at this
      rw [this]
  | x :: l, y :: r, hl, hr => by
    obtain ⟨a1, a2⟩ := Ris.cons.1 hl
    obtain ⟨b1, b2⟩ := Ris.cons.1 hr
    cases hyx : lt y x with
    | true =>
      rw [mrg, if_pos hyx, ins]
      cases hzy : lt z y with
      | true =>
        rw [if_pos rfl, ins, if_pos hzy, mrg, if_pos (o.tr hzy hyx), mrg, if_pos hyx]
      | false =>
        rw [if_neg (by simp), ins, if_neg (by simp [hzy]), mrg, if_pos hyx, ins_mrg o z (x :: l) r hl b2]
    | false =>
      rw [mrg, if_neg (by simp [hyx]), ins]
      cases hzx : lt z x with
      | true =>
        have hzy : lt z y = true := by
          rcases o.neg z x y hzx with h | h
          · exact h
          · rw [h] at hyx; cases hyx
        rw [if_pos rfl, ins, if_pos hzy, mrg, if_pos hzx, mrg, if_neg (by simp [hyx])]
      | false =>
        rw [if_neg (by simp), ins_mrg o z l (y :: r) a2 hr, ins]
        cases hzy : lt z y with
        | true => rw [if_pos rfl, mrg, if_neg (by simp [hzx])]
        | false => rw [if_neg (by simp), mrg, if_neg (by simp [hyx])]
termination_by l r => l.length + r.length
theorem srt_append (o : Ord lt) (a b : List α) : srt lt (a ++ b) = mrg lt (srt lt a) (srt lt b) := by
  have key : ∀ (n : Nat) (b : List α), b.length = n → srt lt (a ++ b) = mrg lt (srt lt a) (srt lt b) := by
    intro n
    induction n with
    | zero => intro b hb; obtain rfl := List.length_eq_zero_iff.1 hb; simp [srt, mrg_nil]
    | succ n ih =>
      intro b hb
      obtain ⟨c, x, rfl⟩ : ∃ c x, b = c ++ [x] := ⟨b.dropLast, b.getLast (by intro e; rw [e] at hb; simp at hb), (List.dropLast_concat_getLast _).symm⟩
      rw [← List.append_assoc, srt_snoc, srt_snoc, ih c (by simpa using hb), ins_mrg o _ _ _ (ris_srt o _) (ris_srt o _)]
  exact key _ b rfl
theorem ris_mrg (o : Ord lt) : ∀ (l r : List α), Ris lt l → Ris lt r → Ris lt (mrg lt l r)
  | [], r, _, h => by rw [nil_mrg]; exact h
  | x :: l, [], h, _ => by rw [mrg_nil]; exact h
  | x :: l, y :: r, hl, hr => by
    obtain ⟨a1, a2⟩ := Ris.cons.1 hl
    obtain ⟨b1, b2⟩ := Ris.cons.1 hr
    rw [mrg]
    cases hyx : lt y x with
    | true =>
      rw [if_pos rfl]
      refine Ris.cons.2 ⟨fun z hz => ?_, ris_mrg o _ _ hl b2⟩
      rcases mrg_mem.1 hz with hz | hz
      · rcases List.mem_cons.1 hz with rfl | hz
        · exact o.asym _ _ hyx
        · exact o.le_tr (o.asym _ _ hyx) (a1 z hz)
      · exact b1 z hz
    | false =>
      rw [if_neg (by simp)]
      refine Ris.cons.2 ⟨fun z hz => ?_, ris_mrg o _ _ a2 hr⟩
      rcases mrg_mem.1 hz with hz | hz
      · exact a1 z hz
      · rcases List.mem_cons.1 hz with rfl | hz
        · exact hyx
        · exact o.le_tr hyx (b1 z hz)
termination_by l r => l.length + r.length
/-- One alone goes behind those of r that are less than it. -/
theorem one_mrg (x : α) (r1 r2 : List α) (h1 : ∀ y ∈ r1, lt y x = true) (h2 : ∀ y ∈ r2, lt y x = false) : mrg lt [x] (r1 ++ r2) = r1 ++ x :: r2 := by
  have := mrg_split (lt := lt) [x] [] [] r1 (fun a ha b hb => by simp at hb; subst hb; exact h1 a ha) (fun a ha => by cases ha)
  have h3 := mrg_split (lt := lt) [] r2 [x] [] (fun a ha => by cases ha) (fun a ha b hb => by simp at hb; subst hb; exact h2 a ha)
  have h4 := mrg_split (lt := lt) [x] r2 [] r1 (fun a ha b hb => by simp at hb; subst hb; exact h1 a ha) (fun a ha b hb => by cases hb)
  rw [List.nil_append, nil_mrg] at h4
  rw [h4]
  simp only [List.append_nil, List.nil_append, mrg_nil, nil_mrg] at h3
  rw [h3]; rfl
/-- One alone goes behind those of l that aren't greater. -/
theorem mrg_one (y : α) (l1 l2 : List α) (h1 : ∀ x ∈ l1, lt y x = false) (h2 : ∀ x ∈ l2, lt y x = true) : mrg lt (l1 ++ l2) [y] = l1 ++ y :: l2 := by
  have h4 := mrg_split (lt := lt) l2 [] l1 [y] (fun a ha b hb => by simp at ha; subst ha; exact h2 b hb) (fun a ha => by cases ha)
  have h3 := mrg_split (lt := lt) [] [y] l1 [] (fun a ha => by cases ha) (fun a ha b hb => by simp at ha; subst ha; exact h1 b hb)
  rw [List.append_nil, mrg_nil] at h4
  rw [h4]
  simp only [List.append_nil, List.nil_append, mrg_nil, nil_mrg] at h3
  rw [h3]; simp
end
end Go.Proofs.Ytmjijmkdeblefaa

/- The stable sort of fields: swapRange, rotate. -/
namespace Go.Proofs.Ytmjijmkdeblefaa
open Go.RowKit LM
set_option linter.unusedVariables false

theorem FlAt.drew {W : World} {B g cap : Nat} {fs : List Fld} (h : FlAt W B g cap fs) : FlAt W.drew B g cap fs := h.kept ((Below.refl _ _).drew)
theorem grown_drew {W W' : World} {r : Option Nat} (h : W.grownBy W' r) : W.grownBy W'.drew r := ⟨h.os, h.tape, h.output, h.size, h.block⟩

set_option maxRecDepth 100000 in
set_option maxHeartbeats 2000000 in
theorem swapRange_any (W : World) (B g cap : Nat) (fs : List Fld) (a b n N : Nat) (fv : Value) (h : FlAt W B g cap fs) (hN : fs.length = N) (ha : a + n ≤ N) (hb : b + n ≤ N) (hab : a + n ≤ b) (hl : N ≤ 1099511627776) :
    Calls Try.prog 155 #[.slice (some ⟨g, 0, none⟩) N cap, .int .i64 a, .int .i64 b, .int .i64 n, fv] W fun e w' => e = .returned (.tuple #[]) ∧ FlAt w' B g cap (swR fs a b n) ∧ W.grownBy w' (some g) := by
  have HF := Lib.hid h
  have HN := Lib.hid hN
  clear h hN
  go_enter Try.func155, Try.ntmps155
  go_wp2
  go_loopw [10] (fun i wr => ∃ k : Nat, k ≤ n ∧ i = .int .i64 k ∧ FlAt wr B g cap (swR fs a b k) ∧ W.grownBy wr (some g)) (fun i _ => n - (intOf i).toNat)
  case atStart => exact ⟨0, Nat.zero_le _, rfl, HF.out, ⟨rfl, rfl, rfl, Nat.le_refl _, fun _ _ _ => rfl⟩⟩
  case round =>
    obtain ⟨k, hk, rfl, hfl, hgr⟩ := hrel
    have hlen : (swR fs a b k).length = N := by rw [length_swR, HN.out]
    have HL := Lib.hid hlen
    have HFL := Lib.hid hfl
    have HGR := Lib.hid hgr
    clear hfl hgr hlen
    by_cases hkn : k < n
    · have hi : a + k < (swR fs a b k).length := by rw [HL.out]; omega
      have hj : b + k < (swR fs a b k).length := by rw [HL.out]; omega
      obtain ⟨x0, x1, x2, x3, x4⟩ := HFL.out.cells hi
      obtain ⟨y0, y1, y2, y3, y4⟩ := HFL.out.cells hj
      have HZ := Lib.hid (HFL.out.swap hi hj)
      have hz : ∀ o, wr.frozen? ⟨g, o, none⟩ = false := fun o => HFL.out.frozen o
      have p0 : (0 : Int) ≤ (a : Int) + (k : Int) := by omega
      have p1 : (a : Int) + (k : Int) < (N : Int) := by omega
      have p2 : ((a : Int) + (k : Int)).toNat = a + k := by omega
      have q0 : (0 : Int) ≤ (b : Int) + (k : Int) := by omega
      have q1 : (b : Int) + (k : Int) < (N : Int) := by omega
      have q2 : ((b : Int) + (k : Int)).toNat = b + k := by omega
      have n00 : ¬ ((a + k) * 5 = (b + k) * 5) := by omega
      have n01 : ¬ ((a + k) * 5 = (b + k) * 5 + 1) := by omega
      have n02 : ¬ ((a + k) * 5 = (b + k) * 5 + 2) := by omega
      have n03 : ¬ ((a + k) * 5 = (b + k) * 5 + 3) := by omega
      have n04 : ¬ ((a + k) * 5 = (b + k) * 5 + 4) := by omega
      have n10 : ¬ ((a + k) * 5 + 1 = (b + k) * 5) := by omega
      have n11 : ¬ ((a + k) * 5 + 1 = (b + k) * 5 + 1) := by omega
      have n12 : ¬ ((a + k) * 5 + 1 = (b + k) * 5 + 2) := by omega
      have n13 : ¬ ((a + k) * 5 + 1 = (b + k) * 5 + 3) := by omega
      have n14 : ¬ ((a + k) * 5 + 1 = (b + k) * 5 + 4) := by omega
      have n20 : ¬ ((a + k) * 5 + 2 = (b + k) * 5) := by omega
      have n21 : ¬ ((a + k) * 5 + 2 = (b + k) * 5 + 1) := by omega
      have n22 : ¬ ((a + k) * 5 + 2 = (b + k) * 5 + 2) := by omega
      have n23 : ¬ ((a + k) * 5 + 2 = (b + k) * 5 + 3) := by omega
      have n24 : ¬ ((a + k) * 5 + 2 = (b + k) * 5 + 4) := by omega
      have n30 : ¬ ((a + k) * 5 + 3 = (b + k) * 5) := by omega
      have n31 : ¬ ((a + k) * 5 + 3 = (b + k) * 5 + 1) := by omega
      have n32 : ¬ ((a + k) * 5 + 3 = (b + k) * 5 + 2) := by omega
      have n33 : ¬ ((a + k) * 5 + 3 = (b + k) * 5 + 3) := by omega
      have n34 : ¬ ((a + k) * 5 + 3 = (b + k) * 5 + 4) := by omega
      have n40 : ¬ ((a + k) * 5 + 4 = (b + k) * 5) := by omega
      have n41 : ¬ ((a + k) * 5 + 4 = (b + k) * 5 + 1) := by omega
      have n42 : ¬ ((a + k) * 5 + 4 = (b + k) * 5 + 2) := by omega
      have n43 : ¬ ((a + k) * 5 + 4 = (b + k) * 5 + 3) := by omega
      have n44 : ¬ ((a + k) * 5 + 4 = (b + k) * 5 + 4) := by omega
      generalize (swR fs a b k)[a + k] = fa at *
      generalize (swR fs a b k)[b + k] = fb at *
      go_wp2
      go_big_region
      go_wp2
      go_roundw
      case rel => exact ⟨k + 1, by omega, by go_num, HZ.out.1.drew, grown_drew (grown_again HGR.out HZ.out.2)⟩
      case measure => simp [intOf]; omega
    · have hke : k = n := by omega
      have HK := Lib.hid hke
      clear hke
      go_wp2
      go_end0
      refine ⟨rfl, ?_, HGR.out⟩
      have := HFL.out
      rwa [HK.out] at this

/-- While two neighbours are turned: U and V are still to change places. -/
def RotI (W : World) (B g cap : Nat) (G : List Fld) (m N : Nat) (i j : Nat) (wr : World) : Prop :=
  ∃ P U V S : List Fld, U.length = i ∧ V.length = j ∧ 0 < i ∧ 0 < j ∧ P.length + i = m ∧ P ++ V ++ U ++ S = G ∧ (P ++ U ++ V ++ S).length = N ∧ FlAt wr B g cap (P ++ U ++ V ++ S) ∧ W.grownBy wr (some g)

set_option maxRecDepth 100000 in
set_option maxHeartbeats 2000000 in
theorem rotate_any (W : World) (B g cap : Nat) (P X Y S : List Fld) (a m b N : Nat) (fv : Value) (h : FlAt W B g cap (P ++ X ++ Y ++ S)) (hN : (P ++ X ++ Y ++ S).length = N) (ha : a = P.length) (hm : m = a + X.length) (hb : b = m + Y.length) (hX : 0 < X.length) (hY : 0 < Y.length) (hl : N ≤ 1099511627776) :
    Calls Try.prog 147 #[.slice (some ⟨g, 0, none⟩) N cap, .int .i64 a, .int .i64 m, .int .i64 b, fv] W fun e w' => e = .returned (.tuple #[]) ∧ FlAt w' B g cap (P ++ Y ++ X ++ S) ∧ W.grownBy w' (some g) := by
  have hst : RotI W B g cap (P ++ Y ++ X ++ S) m N X.length Y.length W := ⟨P, X, Y, S, rfl, rfl, hX, hY, by omega, rfl, hN, h, ⟨rfl, rfl, rfl, Nat.le_refl _, fun _ _ _ => rfl⟩⟩
  have HST := Lib.hid hst
  have hmN : m ≤ N := by rw [← hN]; simp; omega
  have hbN : b ≤ N := by rw [← hN]; simp; omega
  have hsw := fun (wr : World) (P U M V S : List Fld) (a b n : Nat) (h : FlAt wr B g cap (P ++ U ++ M ++ V ++ S)) (hN : (P ++ U ++ M ++ V ++ S).length = N) (hu : U.length = n) (hv : V.length = n) (ha : a = P.length) (hb : b = a + n + M.length) =>
    (swapRange_any wr B g cap (P ++ U ++ M ++ V ++ S) a b n N fv h hN (by simp at hN; omega) (by simp at hN; omega) (by omega) hl).mono fun e w' hh => (⟨hh.1, by rw [← swR_eq P U M V S hu hv ha hb]; exact hh.2.1, hh.2.2⟩ : e = .returned (.tuple #[]) ∧ FlAt w' B g cap (P ++ V ++ M ++ U ++ S) ∧ wr.grownBy w' (some g))
  have HSW := Lib.hid hsw
  generalize P ++ Y ++ X ++ S = G at *
  generalize hXl : X.length = x at *
  generalize hYl : Y.length = y at *
  have e1 : (m : Int) - (a : Int) = (x : Int) := by omega
  have e2 : (b : Int) - (m : Int) = (y : Int) := by omega
  clear hst h hN hsw hXl hYl
  have ham : a ≤ m := by omega
  have hmb : m ≤ b := by omega
  have hm0 : 0 < m := by omega
  clear ha hm hb
  go_enter Try.func147, Try.ntmps147
  go_wp2
  clear e1 e2
  go_loopw [10, 11] (fun vi vj wr => ∃ i j : Nat, vi = .int .i64 i ∧ vj = .int .i64 j ∧ Hid (RotI W B g cap G m N i j wr)) (fun vi vj _ => (intOf vi).toNat + (intOf vj).toNat)
  case atStart => exact ⟨x, y, rfl, rfl, HST.out⟩
  case round =>
    obtain ⟨i, j, rfl, rfl, HR⟩ := hrel
    obtain ⟨P', U, V, S', hU, hV, hi, hj, hP, hG, hN', hfl, hgr⟩ := HR.out
    have HFL := Lib.hid hfl
    have HGR := Lib.hid hgr
    have HG := Lib.hid hG
    have HN' := Lib.hid hN'
    have HU := Lib.hid hU
    have HV := Lib.hid hV
    have hjN : m + j ≤ N := by rw [← hN']; simp; omega
    clear hfl hgr hG hN' hU hV HR
    have him : i ≤ m := by omega
    have HP := Lib.hid hP
    clear hP
    by_cases hij : i = j
    · subst hij
      have z1 : (m : Int) - (i : Int) = ((m - i : Nat) : Int) := by omega
      have HC := Lib.hid (HSW.out wr P' U [] V S' (m - i) m i (by simpa using HFL.out) (by simpa using HN'.out) HU.out HV.out (by have := HP.out; omega) (by simp; omega))
      go_wp2_with (go_at_call 155; refine HC.out.mono ?_; rintro e w' ⟨rfl, hf, hg⟩; have HF := Lib.hid hf; have HG2 := Lib.hid hg; clear hf hg)
      go_end0
      refine ⟨rfl, ?_, grown_again HGR.out HG2.out⟩
      have := HF.out
      simp only [List.append_nil] at this
      rwa [HG.out] at this
    · have hne : ((i : Int) != (j : Int)) = true := by simp; omega
      by_cases hgt : j < i
      · have hd : decide ((i : Int) > (j : Int)) = true := decide_eq_true (by omega)
        have z1 : (m : Int) - (i : Int) = ((m - i : Nat) : Int) := by omega
        have z2 : (i : Int) - (j : Int) = ((i - j : Nat) : Int) := by omega
        obtain ⟨U1, U2, rfl, hu1⟩ : ∃ U1 U2, U = U1 ++ U2 ∧ U1.length = j := ⟨U.take j, U.drop j, (List.take_append_drop _ _).symm, by rw [List.length_take, HU.out]; omega⟩
        have hu2 : U2.length = i - j := by have := HU.out; simp at this; omega
        have HC := Lib.hid (HSW.out wr P' U1 U2 V S' (m - i) m j (by simpa using HFL.out) (by simpa using HN'.out) hu1 HV.out (by have := HP.out; omega) (by omega))
        have hstep : ∀ w', FlAt w' B g cap (P' ++ V ++ U2 ++ U1 ++ S') → wr.grownBy w' (some g) → Hid (RotI W B g cap G m N (i - j) j w') := fun w' h1 h2 => by
          refine Lib.hid ⟨P' ++ V, U2, U1, S', hu2, hu1, by omega, hj, ?_, ?_, ?_, by simpa using h1, grown_again HGR.out h2⟩
          · have := HV.out; have := HP.out; simp; omega
          · rw [← HG.out]; simp
          · rw [← HN'.out]; simp; omega
        have HS := Lib.hid hstep
        clear hstep hu1 hu2 hij
        go_wp2_with (go_at_call 155; refine HC.out.mono ?_; rintro e w' ⟨rfl, hf, hg⟩; have HF := Lib.hid hf; have HG2 := Lib.hid hg; clear hf hg)
        go_roundw
        case rel => exact ⟨i - j, j, rfl, rfl, HS.out _ HF.out HG2.out⟩
        case measure => simp [intOf]; omega
      · have hd : decide ((i : Int) > (j : Int)) = false := decide_eq_false (by omega)
        have z1 : (m : Int) - (i : Int) = ((m - i : Nat) : Int) := by omega
        have z2 : (m : Int) + (j : Int) - (i : Int) = ((m + j - i : Nat) : Int) := by omega
        have z3 : (j : Int) - (i : Int) = ((j - i : Nat) : Int) := by omega
        obtain ⟨V1, V2, rfl, hv1⟩ : ∃ V1 V2, V = V1 ++ V2 ∧ V1.length = j - i := ⟨V.take (j - i), V.drop (j - i), (List.take_append_drop _ _).symm, by rw [List.length_take, HV.out]; omega⟩
        have hv2 : V2.length = i := by have := HV.out; simp at this; omega
        have HC := Lib.hid (HSW.out wr P' U V1 V2 S' (m - i) (m + j - i) i (by simpa using HFL.out) (by simpa using HN'.out) HU.out hv2 (by have := HP.out; omega) (by omega))
        have hstep : ∀ w', FlAt w' B g cap (P' ++ V2 ++ V1 ++ U ++ S') → wr.grownBy w' (some g) → Hid (RotI W B g cap G m N i (j - i) w') := fun w' h1 h2 => by
          refine Lib.hid ⟨P', V2, V1, U ++ S', hv2, hv1, hi, by omega, ?_, ?_, ?_, by simpa using h1, grown_again HGR.out h2⟩
          · have := HP.out; omega
          · rw [← HG.out]; simp
          · rw [← HN'.out]; simp; omega
        have HS := Lib.hid hstep
        clear hstep hv1 hv2 hij
        go_wp2_with (go_at_call 155; refine HC.out.mono ?_; rintro e w' ⟨rfl, hf, hg⟩; have HF := Lib.hid hf; have HG2 := Lib.hid hg; clear hf hg)
        go_roundw
        case rel => exact ⟨i, j - i, rfl, rfl, HS.out _ HF.out HG2.out⟩
        case measure => simp [intOf]; omega
end Go.Proofs.Ytmjijmkdeblefaa

/- The stable sort of fields: symMerge. -/
namespace Go.Proofs.Ytmjijmkdeblefaa
open Go.RowKit LM
set_option linter.unusedVariables false

/-- Less by name. -/
def ltF (x y : Fld) : Bool := decide (fldCmp x y < 0)

theorem grown_cmp {W w w2 : World} {g : Nat} (h : W.grownBy w (some g)) (hb : Below w.heap.size w w2) : W.grownBy w2 (some g) :=
  ⟨hb.os.trans h.os, hb.tape.trans h.tape, hb.output.trans h.output, Nat.le_trans h.size hb.size, fun k hk hne => (hb.block k (Nat.lt_of_lt_of_le hk h.size)).trans (h.block k hk hne)⟩
theorem cmp_below (x y : Fld) (w : World) : Calls Try.prog 95 #[.agg #[.string x.name, .int .u8 x.h.op, .string x.h.name, .int .i64 x.h.n, .slice x.q x.k.len x.cap], .agg #[.string y.name, .int .u8 y.h.op, .string y.h.name, .int .i64 y.h.n, .slice y.q y.k.len y.cap]] w
    fun e w' => e = .returned (.int .i64 (fldCmp x y)) ∧ Below w.heap.size w w' :=
  (cmp_any x y w).mono fun e w' hh => ⟨hh.1, by rw [hh.2]; exact (below_box _ _).alloc (by simp) _⟩

/-- What a comparison reads, kept while others make memory. -/
theorem cmp_keep {wr : World} {B g cap : Nat} {fs : List Fld} (h : FlAt wr B g cap fs) {u v : Nat} {fa fb : Fld} (hu : fs[u]? = some fa) (hv : fs[v]? = some fb) : ∀ w', Below wr.heap.size wr w' → Below wr.heap.size wr w' ∧ w'.cell? ⟨g, u * 5, none⟩ = some (.string fa.name) ∧ w'.cell? ⟨g, u * 5 + 1, none⟩ = some (.int .u8 fa.h.op) ∧ w'.cell? ⟨g, u * 5 + 2, none⟩ = some (.string fa.h.name) ∧ w'.cell? ⟨g, u * 5 + 3, none⟩ = some (.int .i64 fa.h.n) ∧ w'.cell? ⟨g, u * 5 + 4, none⟩ = some (.slice fa.q fa.k.len fa.cap) ∧ w'.cell? ⟨g, v * 5, none⟩ = some (.string fb.name) ∧ w'.cell? ⟨g, v * 5 + 1, none⟩ = some (.int .u8 fb.h.op) ∧ w'.cell? ⟨g, v * 5 + 2, none⟩ = some (.string fb.h.name) ∧ w'.cell? ⟨g, v * 5 + 3, none⟩ = some (.int .i64 fb.h.n) ∧ w'.cell? ⟨g, v * 5 + 4, none⟩ = some (.slice fb.q fb.k.len fb.cap) := fun w' hb => by
  obtain ⟨lu, rfl⟩ := List.getElem?_eq_some_iff.1 hu
  obtain ⟨lv, rfl⟩ := List.getElem?_eq_some_iff.1 hv
  obtain ⟨x0, x1, x2, x3, x4⟩ := (h.kept hb).cells lu
  obtain ⟨y0, y1, y2, y3, y4⟩ := (h.kept hb).cells lv
  exact ⟨hb, x0, x1, x2, x3, x4, y0, y1, y2, y3, y4⟩
theorem cmp_call (wr : World) (x y : Fld) (c : Int) (hc : fldCmp x y = c) : ∀ w', Below wr.heap.size wr w' → Calls Try.prog 95 #[.agg #[.string x.name, .int .u8 x.h.op, .string x.h.name, .int .i64 x.h.n, .slice x.q x.k.len x.cap], .agg #[.string y.name, .int .u8 y.h.op, .string y.h.name, .int .i64 y.h.n, .slice y.q y.k.len y.cap]] w'
    fun e w2 => e = .returned (.int .i64 c) ∧ Below wr.heap.size wr w2 := fun w' hb => by
  rw [← hc]
  exact (cmp_below x y w').mono fun e w2 hh => ⟨hh.1, hb.trans (hh.2.mono hb.size)⟩

set_option maxRecDepth 100000 in
set_option maxHeartbeats 4000000 in
theorem symMerge_one (W : World) (B g cap : Nat) (P R S : List Fld) (x : Fld) (a m b N : Nat) (h : FlAt W B g cap (P ++ [x] ++ R ++ S)) (hN : (P ++ [x] ++ R ++ S).length = N) (ha : a = P.length) (hm : m = a + 1) (hb : b = m + R.length) (hl : N ≤ 1099511627776) (hR : Ris ltF R) (ho : Ord ltF) :
    Calls Try.prog 129 #[.slice (some ⟨g, 0, none⟩) N cap, .int .i64 a, .int .i64 m, .int .i64 b, .func (.func 95) #[] #[]] W fun e w' => e = .returned (.tuple #[]) ∧ FlAt w' B g cap (P ++ mrg ltF [x] R ++ S) ∧ W.grownBy w' (some g) := by
  have HF := Lib.hid h
  have hbN : b ≤ N := by rw [← hN]; simp; omega
  have HN := Lib.hid hN
  have e1 : (m : Int) - (a : Int) = 1 := by omega
  have hma : m ≤ b := by omega
  have HA := Lib.hid ha
  have HM := Lib.hid hm
  have HB := Lib.hid hb
  clear h hN ha hm hb
  go_enter Try.func129, Try.ntmps129
  go_wp2
  go_loopw [10, 11] (fun vi vj wr => ∃ i j : Nat, vi = .int .i64 i ∧ vj = .int .i64 j ∧ m ≤ i ∧ i ≤ j ∧ j ≤ b ∧ Hid (∀ t, (ht : t < R.length) → (m + t < i → ltF R[t] x = true) ∧ (j ≤ m + t → ltF R[t] x = false)) ∧ FlAt wr B g cap (P ++ [x] ++ R ++ S) ∧ W.grownBy wr (some g)) (fun vi vj _ => (intOf vj).toNat - (intOf vi).toNat)
  case atStart => exact ⟨m, b, rfl, rfl, Nat.le_refl _, hma, Nat.le_refl _, Lib.hid (fun t ht => ⟨fun h => by omega, fun h => by have := HB.out; omega⟩), HF.out, ⟨rfl, rfl, rfl, Nat.le_refl _, fun _ _ _ => rfl⟩⟩
  case round =>
    obtain ⟨i, j, rfl, rfl, hmi, hij, hjb, HT, hfl, hgr⟩ := hrel
    have HFL := Lib.hid hfl
    have HGR := Lib.hid hgr
    clear hfl hgr
    by_cases hlt : i < j
    · obtain ⟨y, hy⟩ : ∃ y, (i + j) / 2 = y := ⟨_, rfl⟩
      have p0 : (0 : Int) ≤ (i : Int) + (j : Int) := by omega
      have eh : ((i : Int) + (j : Int)) / 2 = (y : Int) := by omega
      have y0 : i ≤ y := by omega
      have y1 : y < j := by omega
      have y2 : y < N := by omega
      have hai : (a : Int) < (N : Int) := by omega
      clear hy
      have hyR : y - m < R.length := by have := HB.out; omega
      have HJ := Lib.hid (cmp_keep HFL.out (u := y) (v := a) (fa := R[y - m]) (fb := x) (by
        have := HA.out; have := HM.out
        rw [List.append_assoc, List.getElem?_append_right (by simp; omega), List.getElem?_append_left (by simp; omega), show y - (P ++ [x]).length = y - m by simp; omega]
        exact List.getElem?_eq_getElem hyR) (by
        have := HA.out
        rw [List.append_assoc, List.append_assoc, List.getElem?_append_right (by omega), show a - P.length = 0 by omega]; rfl))
      have hT := HT.out (y - m) hyR
      have hsplit : (ltF R[y - m] x = true → Hid (∀ t, (ht : t < R.length) → (m + t < y + 1 → ltF R[t] x = true) ∧ (j ≤ m + t → ltF R[t] x = false))) ∧ (ltF R[y - m] x = false → Hid (∀ t, (ht : t < R.length) → (m + t < i → ltF R[t] x = true) ∧ (y ≤ m + t → ltF R[t] x = false))) := by
        refine ⟨fun h1 => Lib.hid fun t ht => ⟨fun h2 => ?_, (HT.out t ht).2⟩, fun h1 => Lib.hid fun t ht => ⟨(HT.out t ht).1, fun h2 => ?_⟩⟩
        · by_cases ht2 : t = y - m
          · subst ht2; exact h1
          · have h3 : ltF R[y - m] R[t] = false := List.pairwise_iff_getElem.1 hR t (y - m) ht hyR (by omega)
            rcases ho.neg _ _ R[t] h1 with h4 | h4
            · rw [h3] at h4; cases h4
            · exact h4
        · by_cases ht2 : t = y - m
          · subst ht2; exact h1
          · have h3 : ltF R[t] R[y - m] = false := List.pairwise_iff_getElem.1 hR (y - m) t hyR ht (by omega)
            exact ho.le_tr h1 h3
      have HSP := Lib.hid hsplit
      clear hsplit hT
      obtain ⟨c, hc⟩ : ∃ c, fldCmp R[y - m] x = c := ⟨_, rfl⟩
      have HC := Lib.hid (cmp_call wr R[y - m] x c hc)
      have HCC : Hid (ltF R[y - m] x = decide (c < 0)) := Lib.hid (by unfold ltF; rw [hc])
      clear hc
      by_cases hc0 : c < 0
      · have hd : decide (c < 0) = true := decide_eq_true hc0
        have HS := Lib.hid (HSP.out.1 (by rw [HCC.out, hd]))
        generalize R[y - m] = fy at *
        go_wp2
        go_region_held3 (fun w' => Below wr.heap.size wr w' ∧ w'.cell? ⟨g, y * 5, none⟩ = some (.string fy.name) ∧ w'.cell? ⟨g, y * 5 + 1, none⟩ = some (.int .u8 fy.h.op) ∧ w'.cell? ⟨g, y * 5 + 2, none⟩ = some (.string fy.h.name) ∧ w'.cell? ⟨g, y * 5 + 3, none⟩ = some (.int .i64 fy.h.n) ∧ w'.cell? ⟨g, y * 5 + 4, none⟩ = some (.slice fy.q fy.k.len fy.cap) ∧ w'.cell? ⟨g, a * 5, none⟩ = some (.string x.name) ∧ w'.cell? ⟨g, a * 5 + 1, none⟩ = some (.int .u8 x.h.op) ∧ w'.cell? ⟨g, a * 5 + 2, none⟩ = some (.string x.h.name) ∧ w'.cell? ⟨g, a * 5 + 3, none⟩ = some (.int .i64 x.h.n) ∧ w'.cell? ⟨g, a * 5 + 4, none⟩ = some (.slice x.q x.k.len x.cap)) ((refine HJ.out _ ?_; (first | assumption | exact (below_drewN (Below.refl _ _) _).drew | exact below_drewN (Below.refl _ _) _ | exact (Below.refl _ _).drew | exact Below.refl _ _ | (go_split_ands; assumption)))) (first | (go_at_call 95; (with_reducible refine (HC.out _ ?_).mono ?_); (first | assumption | exact (below_drewN (Below.refl _ _) _).drew | exact below_drewN (Below.refl _ _) _ | exact (Below.refl _ _).drew | exact Below.refl _ _ | (go_split_ands; assumption)); rintro e w21 ⟨rfl, hc21⟩))
        rename_i hH
        have HBH := Lib.hid hH.1
        clear hH
        go_wp2
        go_roundw
        case rel => exact ⟨y + 1, j, by go_num, rfl, by omega, by omega, hjb, HS.out, HFL.out.kept HBH.out, grown_cmp HGR.out HBH.out⟩
        case measure => simp [intOf]; omega
      · have hd : decide (c < 0) = false := decide_eq_false hc0
        have HS := Lib.hid (HSP.out.2 (by rw [HCC.out, hd]))
        generalize R[y - m] = fy at *
        go_wp2
        go_region_held3 (fun w' => Below wr.heap.size wr w' ∧ w'.cell? ⟨g, y * 5, none⟩ = some (.string fy.name) ∧ w'.cell? ⟨g, y * 5 + 1, none⟩ = some (.int .u8 fy.h.op) ∧ w'.cell? ⟨g, y * 5 + 2, none⟩ = some (.string fy.h.name) ∧ w'.cell? ⟨g, y * 5 + 3, none⟩ = some (.int .i64 fy.h.n) ∧ w'.cell? ⟨g, y * 5 + 4, none⟩ = some (.slice fy.q fy.k.len fy.cap) ∧ w'.cell? ⟨g, a * 5, none⟩ = some (.string x.name) ∧ w'.cell? ⟨g, a * 5 + 1, none⟩ = some (.int .u8 x.h.op) ∧ w'.cell? ⟨g, a * 5 + 2, none⟩ = some (.string x.h.name) ∧ w'.cell? ⟨g, a * 5 + 3, none⟩ = some (.int .i64 x.h.n) ∧ w'.cell? ⟨g, a * 5 + 4, none⟩ = some (.slice x.q x.k.len x.cap)) ((refine HJ.out _ ?_; (first | assumption | exact (below_drewN (Below.refl _ _) _).drew | exact below_drewN (Below.refl _ _) _ | exact (Below.refl _ _).drew | exact Below.refl _ _ | (go_split_ands; assumption)))) (first | (go_at_call 95; (with_reducible refine (HC.out _ ?_).mono ?_); (first | assumption | exact (below_drewN (Below.refl _ _) _).drew | exact below_drewN (Below.refl _ _) _ | exact (Below.refl _ _).drew | exact Below.refl _ _ | (go_split_ands; assumption)); rintro e w21 ⟨rfl, hc21⟩))
        rename_i hH
        have HBH := Lib.hid hH.1
        clear hH
        go_wp2
        go_roundw
        case rel => exact ⟨i, y, rfl, rfl, hmi, by omega, by omega, HS.out, HFL.out.kept HBH.out, grown_cmp HGR.out HBH.out⟩
        case measure => simp [intOf]; omega
    · have hje : j = i := by omega
      subst hje
      have hm1 : 1 ≤ m := by have := HM.out; omega
      have ez : (j : Int) - 1 = ((j - 1 : Nat) : Int) := by omega
      have hst : FlAt wr B g cap (P ++ R.take 0 ++ [x] ++ R.drop 0 ++ S) := by have := HFL.out; simpa using this
      have HST := Lib.hid hst
      have haj : a ≤ j - 1 := by have := HM.out; omega
      clear hst
      go_wp2
      go_loopw [13] (fun vk wx => ∃ k : Nat, vk = .int .i64 k ∧ a ≤ k ∧ k ≤ j - 1 ∧ FlAt wx B g cap (P ++ R.take (k - a) ++ [x] ++ R.drop (k - a) ++ S) ∧ W.grownBy wx (some g)) (fun vk _ => j - (intOf vk).toNat)
      case atStart => exact ⟨a, rfl, Nat.le_refl _, haj, by rw [Nat.sub_self]; exact HST.out, HGR.out⟩
      case round =>
        obtain ⟨k, rfl, hak, hkj, hfl, hgr⟩ := hrel
        have HFK := Lib.hid hfl
        have HGK := Lib.hid hgr
        clear hfl hgr
        have hmm := HM.out
        have hbb := HB.out
        have haa := HA.out
        by_cases hlt2 : k < j - 1
        · have hkR : k - a < R.length := by omega
          have hlen : (P ++ R.take (k - a) ++ [x] ++ R.drop (k - a) ++ S).length = N := by rw [← HN.out]; simp; omega
          have hi : k < (P ++ R.take (k - a) ++ [x] ++ R.drop (k - a) ++ S).length := by rw [hlen]; omega
          have hj : k + 1 < (P ++ R.take (k - a) ++ [x] ++ R.drop (k - a) ++ S).length := by rw [hlen]; omega
          obtain ⟨x0, x1, x2, x3, x4⟩ := HFK.out.cells hi
          obtain ⟨y0, y1, y2, y3, y4⟩ := HFK.out.cells hj
          have HZ := Lib.hid (HFK.out.swap hi hj)
          have hsw : swF (P ++ R.take (k - a) ++ [x] ++ R.drop (k - a) ++ S) k (k + 1) = P ++ R.take (k + 1 - a) ++ [x] ++ R.drop (k + 1 - a) ++ S := by
            have e1 : P ++ R.take (k - a) ++ [x] ++ R.drop (k - a) ++ S = (P ++ R.take (k - a)) ++ x :: ([] ++ R[k - a] :: (R.drop (k - a + 1) ++ S)) := by
              rw [List.drop_eq_getElem_cons hkR]; simp only [List.append_assoc, List.cons_append, List.nil_append]
            rw [e1, swF_eq _ _ _ _ _ (by simp; omega) (by simp; omega), show k + 1 - a = k - a + 1 by omega, List.take_succ_eq_append_getElem hkR]
            simp only [List.append_assoc, List.cons_append, List.nil_append]
          have HSW := Lib.hid hsw
          have hz : ∀ o, wr.frozen? ⟨g, o, none⟩ = false := fun o => HFK.out.frozen o
          have p0 : (0 : Int) ≤ (k : Int) + 1 := by omega
          have p1 : (k : Int) + 1 < (N : Int) := by omega
          have p2 : ((k : Int) + 1).toNat = k + 1 := by omega
          have p3 : (k : Int) < (N : Int) := by omega
          have n00 : ¬ (k * 5 = (k + 1) * 5) := by omega
          have n01 : ¬ (k * 5 = (k + 1) * 5 + 1) := by omega
          have n02 : ¬ (k * 5 = (k + 1) * 5 + 2) := by omega
          have n03 : ¬ (k * 5 = (k + 1) * 5 + 3) := by omega
          have n04 : ¬ (k * 5 = (k + 1) * 5 + 4) := by omega
          have n10 : ¬ (k * 5 + 1 = (k + 1) * 5) := by omega
          have n11 : ¬ (k * 5 + 1 = (k + 1) * 5 + 1) := by omega
          have n12 : ¬ (k * 5 + 1 = (k + 1) * 5 + 2) := by omega
          have n13 : ¬ (k * 5 + 1 = (k + 1) * 5 + 3) := by omega
          have n14 : ¬ (k * 5 + 1 = (k + 1) * 5 + 4) := by omega
          have n20 : ¬ (k * 5 + 2 = (k + 1) * 5) := by omega
          have n21 : ¬ (k * 5 + 2 = (k + 1) * 5 + 1) := by omega
          have n22 : ¬ (k * 5 + 2 = (k + 1) * 5 + 2) := by omega
          have n23 : ¬ (k * 5 + 2 = (k + 1) * 5 + 3) := by omega
          have n24 : ¬ (k * 5 + 2 = (k + 1) * 5 + 4) := by omega
          have n30 : ¬ (k * 5 + 3 = (k + 1) * 5) := by omega
          have n31 : ¬ (k * 5 + 3 = (k + 1) * 5 + 1) := by omega
          have n32 : ¬ (k * 5 + 3 = (k + 1) * 5 + 2) := by omega
          have n33 : ¬ (k * 5 + 3 = (k + 1) * 5 + 3) := by omega
          have n34 : ¬ (k * 5 + 3 = (k + 1) * 5 + 4) := by omega
          have n40 : ¬ (k * 5 + 4 = (k + 1) * 5) := by omega
          have n41 : ¬ (k * 5 + 4 = (k + 1) * 5 + 1) := by omega
          have n42 : ¬ (k * 5 + 4 = (k + 1) * 5 + 2) := by omega
          have n43 : ¬ (k * 5 + 4 = (k + 1) * 5 + 3) := by omega
          have n44 : ¬ (k * 5 + 4 = (k + 1) * 5 + 4) := by omega
          clear hsw hlen hmm hbb haa
          generalize (P ++ R.take (k - a) ++ [x] ++ R.drop (k - a) ++ S)[k] = fa at *
          generalize (P ++ R.take (k - a) ++ [x] ++ R.drop (k - a) ++ S)[k + 1] = fb at *
          go_wp2
          go_big_region
          go_wp2
          go_roundw
          case rel => exact ⟨k + 1, by go_num, by omega, by omega, by rw [← HSW.out]; exact HZ.out.1.drew, grown_drew (grown_again HGK.out HZ.out.2)⟩
          case measure => simp [intOf]; omega
        · have hke : k = j - 1 := by omega
          have HK := Lib.hid hke
          clear hke hmm hbb haa
          go_wp2
          refine bodyPost_ret (results_none rfl _ _ _) rfl ⟨rfl, ?_, HGK.out⟩
          have hf := HFK.out
          have hmm := HM.out
          rw [HK.out, show j - 1 - a = j - m by omega] at hf
          have hmr : mrg ltF [x] R = R.take (j - m) ++ x :: R.drop (j - m) := by
            have := one_mrg (lt := ltF) x (R.take (j - m)) (R.drop (j - m)) (fun y hy => by
              obtain ⟨t, ht, rfl⟩ := List.mem_iff_getElem.1 hy
              simp at ht
              rw [List.getElem_take]
              exact (HT.out t (by omega)).1 (by omega)) (fun y hy => by
              obtain ⟨t, ht, rfl⟩ := List.mem_iff_getElem.1 hy
              simp at ht
              rw [List.getElem_drop]
              exact (HT.out (j - m + t) (by omega)).2 (by omega))
            rwa [List.take_append_drop] at this
          rw [hmr]
          simpa using hf
end Go.Proofs.Ytmjijmkdeblefaa

/- The stable sort of fields: the order of names, insertion sort, blocks: plain. -/
namespace Go.Proofs.Ytmjijmkdeblefaa
open Go.RowKit LM Go.Sort Go.Shelf
set_option linter.unusedVariables false

theorem cmpB_lt : ∀ (a b : List UInt8), Lib.compareBytes a b < 0 ↔ a < b
  | [], [] => by simp [Lib.compareBytes]
  | [], _ :: _ => by simp [Lib.compareBytes]
  | _ :: _, [] => by simp [Lib.compareBytes]
  | a :: ta, b :: tb => by
    have ih := cmpB_lt ta tb
    unfold Lib.compareBytes
    rw [List.cons_lt_cons_iff]
    by_cases h1 : a < b
    · simp [h1]
    · rw [if_neg h1]
      by_cases h2 : b < a
      · rw [if_pos h2]
        have : a ≠ b := fun e => by subst e; exact h1 h2
        simp [h1, this]
      · rw [if_neg h2]
        have : a = b := UInt8.le_antisymm (UInt8.not_lt.1 h2) (UInt8.not_lt.1 h1)
        subst this
        simp [h1, ih]
theorem ltF_iff (x y : Fld) : ltF x y = true ↔ x.name.data.toList < y.name.data.toList := by
  unfold ltF fldCmp
  rw [decide_eq_true_iff]; exact cmpB_lt _ _
theorem ordF : Ord ltF := by
  refine ⟨fun x y h => ?_, fun x y z h => ?_⟩
  · cases h2 : ltF y x with
    | false => rfl
    | true => exact absurd ((ltF_iff y x).1 h2) (List.lt_asymm ((ltF_iff x y).1 h))
  · rw [ltF_iff] at *
    rw [ltF_iff]
    by_cases h1 : x.name.data.toList < z.name.data.toList
    · exact .inl h1
    · exact .inr (List.lt_of_le_of_lt (List.not_lt.1 h1) h)

section
variable {α : Type} {lt : α → α → Bool}
theorem ins_snoc {x y : α} (h : lt x y = true) : ∀ l : List α, ins lt x (l ++ [y]) = ins lt x l ++ [y]
  | [] => by simp [ins, h]
  | z :: l => by
    rw [List.cons_append, ins, ins]
    split
    · rfl
    · rw [ins_snoc h l]; rfl
theorem ins_all {x : α} : ∀ {l : List α}, (∀ z ∈ l, lt x z = false) → ins lt x l = l ++ [x]
  | [], _ => rfl
  | z :: l, h => by
    rw [ins, if_neg (by simp [h z (by simp)]), ins_all (fun a ha => h a (by simp [ha]))]; rfl
theorem srt_one (x : α) : srt lt [x] = [x] := rfl
theorem srt_nil : srt lt ([] : List α) = [] := rfl

variable [Inhabited α]
theorem swp_list (A T : List α) (x y : α) {j : Nat} (hj : j = A.length) : swp (A ++ y :: x :: T).toArray (j + 1) j = (A ++ x :: y :: T).toArray := by
  subst hj
  unfold swp
  have g1 : (A ++ y :: x :: T).toArray[A.length]! = y := by simp
  have g2 : (A ++ y :: x :: T).toArray[A.length + 1]! = x := by
    simp
  rw [g1, g2]
  simp only [List.setIfInBounds_toArray]
  rw [List.set_append_right _ _ (by omega), show A.length + 1 - A.length = 1 by omega, List.set_cons_succ, List.set_cons_zero, List.set_append_right _ _ (by omega), Nat.sub_self, List.set_cons_zero]
theorem insInner_list (o : Ord lt) (P T : List α) (x : α) : ∀ (n : Nat) (Y : List α) (T : List α), Y.length = n → Ris lt Y → insInner lt P.length (P.length + n) (P ++ Y ++ x :: T).toArray = (P ++ ins lt x Y ++ T).toArray := by
  intro n
  induction n with
  | zero =>
    intro Y T hY _
    obtain rfl := List.length_eq_zero_iff.1 hY
    have e : (P ++ [] ++ x :: T).toArray = (P ++ ins lt x [] ++ T).toArray := by simp [ins]
    rw [e]
    cases h : P.length with
    | zero => rw [insInner.eq_def]
    | succ k => rw [show k + 1 + 0 = k + 1 by omega, insInner]; simp
  | succ n ih =>
    intro Y T hY hR
    obtain ⟨Y, y, rfl⟩ : ∃ Z z, Y = Z ++ [z] := ⟨Y.dropLast, Y.getLast (by intro e; rw [e] at hY; simp at hY), (List.dropLast_concat_getLast _).symm⟩
    simp only [List.length_append, List.length_cons, List.length_nil] at hY
    have hR1 : Ris lt Y := (List.pairwise_append.1 hR).1
    have hR2 : ∀ z ∈ Y, lt y z = false := fun z hz => (List.pairwise_append.1 hR).2.2 z hz y (by simp)
    have e0 : P ++ (Y ++ [y]) ++ x :: T = (P ++ Y) ++ y :: x :: T := by simp
    have g1 : ((P ++ Y) ++ y :: x :: T).toArray[P.length + n]! = y := by
      have : P.length + n = (P ++ Y).length := by simp; omega
      rw [this]; simp
    have g2 : ((P ++ Y) ++ y :: x :: T).toArray[P.length + n + 1]! = x := by
      have : P.length + n + 1 = (P ++ Y).length + 1 := by simp; omega
      rw [this, List.getElem!_toArray, List.getElem!_eq_getElem?_getD, List.getElem?_append_right (by omega), show (P ++ Y).length + 1 - (P ++ Y).length = 1 by omega]
      rfl
    rw [e0, show P.length + (n + 1) = P.length + n + 1 by omega, insInner, g1, g2]
    cases hxy : lt x y with
    | true =>
      rw [if_pos (by simp; omega), swp_list _ _ _ _ (by simp; omega), ins_snoc hxy]
      have := ih Y (y :: T) (by omega) hR1
      rw [this]; simp
    | false =>
      rw [if_neg (by simp)]
      rw [ins_all (fun z hz => by
        rcases List.mem_append.1 hz with h | h
        · exact o.le_tr (hR2 z h) hxy
        · simp at h; subst h; exact hxy)]
      simp
theorem insOuter_list (o : Ord lt) (P S : List α) : ∀ (n : Nat) (Y Z : List α), Z.length = n → insOuter lt P.length (P.length + Y.length + n) (P.length + Y.length) (P ++ srt lt Y ++ Z ++ S).toArray = (P ++ srt lt (Y ++ Z) ++ S).toArray := by
  intro n
  induction n with
  | zero =>
    intro Y Z hZ
    obtain rfl := List.length_eq_zero_iff.1 hZ
    rw [insOuter, if_neg (by omega)]; simp
  | succ n ih =>
    intro Y Z hZ
    cases Z with
    | nil => simp at hZ
    | cons x Z =>
      simp only [List.length_cons] at hZ
      rw [insOuter, if_pos (by omega)]
      have h1 := insInner_list o P S x Y.length (srt lt Y) (Z ++ S) (length_srt Y) (ris_srt o Y)
      have e1 : P ++ srt lt Y ++ x :: Z ++ S = P ++ srt lt Y ++ x :: (Z ++ S) := by simp
      rw [e1, h1, ← srt_snoc]
      have h2 := ih (Y ++ [x]) Z (by omega)
      have e2 : P.length + (Y ++ [x]).length + n = P.length + Y.length + (n + 1) := by simp; omega
      have e3 : P.length + (Y ++ [x]).length = P.length + Y.length + 1 := by simp; omega
      rw [e2, e3] at h2
      have e4 : P ++ srt lt (Y ++ [x]) ++ (Z ++ S) = P ++ srt lt (Y ++ [x]) ++ Z ++ S := by simp
      rw [e4, h2]; simp
theorem insSort_list (o : Ord lt) (P X S : List α) {a b : Nat} (ha : a = P.length) (hb : b = a + X.length) : (Sort.insertionSort lt (P ++ X ++ S).toArray a b).toList = P ++ srt lt X ++ S := by
  subst ha hb
  unfold Sort.insertionSort
  cases X with
  | nil => rw [insOuter, if_neg (by simp)]; simp [srt]
  | cons x X =>
    have := insOuter_list o P S X.length [x] X rfl
    rw [srt_one] at this
    have e : P.length + (x :: X).length = P.length + [x].length + X.length := by simp; omega
    have e2 : P.length + 1 = P.length + [x].length := rfl
    rw [e, e2, show P ++ x :: X ++ S = P ++ [x] ++ X ++ S by simp, this]
    simp
end

/-! ### Blocks -/
section
variable {α : Type} (lt : α → α → Bool)
/-- Each s of them sorted alone. -/
def blk (s : Nat) (l : List α) : List α := if h : 0 < s ∧ s < l.length then srt lt (l.take s) ++ blk s (l.drop s) else srt lt l
termination_by l.length
decreasing_by simp; omega
variable {lt}
theorem blk_end {s : Nat} {l : List α} (h : l.length ≤ s) : blk lt s l = srt lt l := by rw [blk, dif_neg (by omega)]
theorem blk_app {s : Nat} {l : List α} (h0 : 0 < s) (h : s ≤ l.length) : blk lt s l = srt lt (l.take s) ++ blk lt s (l.drop s) := by
  by_cases h2 : s < l.length
  · rw [blk, dif_pos ⟨h0, h2⟩]
  · rw [blk, dif_neg (by omega), List.take_of_length_le (by omega), List.drop_of_length_le (by omega), blk_end (by simp), srt_nil, List.append_nil]
theorem length_blk {s : Nat} : ∀ (n : Nat) (l : List α), l.length ≤ n → (blk lt s l).length = l.length := by
  intro n
  induction n with
  | zero => intro l hl; rw [blk, dif_neg (by omega), length_srt]
  | succ n ih =>
    intro l hl
    rw [blk]
    split
    · rename_i h
      rw [List.length_append, length_srt, ih _ (by simp; omega)]; simp; omega
    · rw [length_srt]
end
end Go.Proofs.Ytmjijmkdeblefaa

/- The stable sort of fields: symMerge where the second part has one. -/
namespace Go.Proofs.Ytmjijmkdeblefaa
open Go.RowKit LM
set_option linter.unusedVariables false

theorem swF_comm (fs : List Fld) {i j : Nat} (h : i ≠ j) : swF fs i j = swF fs j i := by
  unfold swF; rw [List.set_comm _ _ h]

set_option maxRecDepth 100000 in
set_option maxHeartbeats 4000000 in
theorem symMerge_last (W : World) (B g cap : Nat) (P L S : List Fld) (y : Fld) (a m b N : Nat) (h : FlAt W B g cap (P ++ L ++ [y] ++ S)) (hN : (P ++ L ++ [y] ++ S).length = N) (ha : a = P.length) (hm : m = a + L.length) (hb : b = m + 1) (hl : N ≤ 1099511627776) (hL : Ris ltF L) (hL2 : L.length ≠ 1) (ho : Ord ltF) :
    Calls Try.prog 129 #[.slice (some ⟨g, 0, none⟩) N cap, .int .i64 a, .int .i64 m, .int .i64 b, .func (.func 95) #[] #[]] W fun e w' => e = .returned (.tuple #[]) ∧ FlAt w' B g cap (P ++ mrg ltF L [y] ++ S) ∧ W.grownBy w' (some g) := by
  have HF := Lib.hid h
  have hbN : b ≤ N := by rw [← hN]; simp; omega
  have HN := Lib.hid hN
  have e1 : (m : Int) - (a : Int) = (L.length : Int) := by omega
  have e2 : ((L.length : Int) == 1) = false := by simp; omega
  have e3 : (b : Int) - (m : Int) = 1 := by omega
  have ham : a ≤ m := by omega
  have hmN : m < N := by omega
  have HA := Lib.hid ha
  have HM := Lib.hid hm
  have HB := Lib.hid hb
  clear h hN ha hm hb hL2
  go_enter Try.func129, Try.ntmps129
  go_wp2
  go_loopw [14, 15] (fun vi vj wr => ∃ i j : Nat, vi = .int .i64 i ∧ vj = .int .i64 j ∧ a ≤ i ∧ i ≤ j ∧ j ≤ m ∧ Hid (∀ t, (ht : t < L.length) → (a + t < i → ltF y L[t] = false) ∧ (j ≤ a + t → ltF y L[t] = true)) ∧ FlAt wr B g cap (P ++ L ++ [y] ++ S) ∧ W.grownBy wr (some g)) (fun vi vj _ => (intOf vj).toNat - (intOf vi).toNat)
  case atStart => exact ⟨a, m, rfl, rfl, Nat.le_refl _, ham, Nat.le_refl _, Lib.hid (fun t ht => ⟨fun h => by omega, fun h => by have := HM.out; omega⟩), HF.out, ⟨rfl, rfl, rfl, Nat.le_refl _, fun _ _ _ => rfl⟩⟩
  case round =>
    obtain ⟨i, j, rfl, rfl, hai, hij, hjm, HT, hfl, hgr⟩ := hrel
    have HFL := Lib.hid hfl
    have HGR := Lib.hid hgr
    clear hfl hgr
    by_cases hlt : i < j
    · obtain ⟨u, hu⟩ : ∃ u, (i + j) / 2 = u := ⟨_, rfl⟩
      have p0 : (0 : Int) ≤ (i : Int) + (j : Int) := by omega
      have eh : ((i : Int) + (j : Int)) / 2 = (u : Int) := by omega
      have u0 : i ≤ u := by omega
      have u1 : u < j := by omega
      have u2 : u < N := by omega
      have hmi : (m : Int) < (N : Int) := by omega
      clear hu
      have huL : u - a < L.length := by have := HM.out; omega
      have HJ := Lib.hid (cmp_keep HFL.out (u := m) (v := u) (fa := y) (fb := L[u - a]) (by
        have := HA.out; have := HM.out
        rw [List.append_assoc, List.getElem?_append_right (by simp; omega), show m - (P ++ L).length = 0 by simp; omega]; rfl) (by
        have := HA.out; have := HM.out
        rw [List.append_assoc, List.append_assoc, List.getElem?_append_right (by omega), List.getElem?_append_left (by omega), show u - P.length = u - a by omega]
        exact List.getElem?_eq_getElem huL))
      have hsplit : (ltF y L[u - a] = false → Hid (∀ t, (ht : t < L.length) → (a + t < u + 1 → ltF y L[t] = false) ∧ (j ≤ a + t → ltF y L[t] = true))) ∧ (ltF y L[u - a] = true → Hid (∀ t, (ht : t < L.length) → (a + t < i → ltF y L[t] = false) ∧ (u ≤ a + t → ltF y L[t] = true))) := by
        refine ⟨fun h1 => Lib.hid fun t ht => ⟨fun h2 => ?_, (HT.out t ht).2⟩, fun h1 => Lib.hid fun t ht => ⟨(HT.out t ht).1, fun h2 => ?_⟩⟩
        · by_cases ht2 : t = u - a
          · subst ht2; exact h1
          · have h3 : ltF L[u - a] L[t] = false := List.pairwise_iff_getElem.1 hL t (u - a) ht huL (by omega)
            exact ho.le_tr h3 h1
        · by_cases ht2 : t = u - a
          · subst ht2; exact h1
          · have h3 : ltF L[t] L[u - a] = false := List.pairwise_iff_getElem.1 hL (u - a) t huL ht (by omega)
            rcases ho.neg _ _ L[t] h1 with h4 | h4
            · exact h4
            · rw [h3] at h4; cases h4
      have HSP := Lib.hid hsplit
      clear hsplit
      obtain ⟨c, hc⟩ : ∃ c, fldCmp y L[u - a] = c := ⟨_, rfl⟩
      have HC := Lib.hid (cmp_call wr y L[u - a] c hc)
      have HCC : Hid (ltF y L[u - a] = decide (c < 0)) := Lib.hid (by unfold ltF; rw [hc])
      clear hc
      by_cases hc0 : c < 0
      · have hd : decide (c < 0) = true := decide_eq_true hc0
        have HS := Lib.hid (HSP.out.2 (by rw [HCC.out, hd]))
        generalize L[u - a] = fy at *
        go_wp2
        go_region_held3 (fun w' => Below wr.heap.size wr w' ∧ w'.cell? ⟨g, m * 5, none⟩ = some (.string y.name) ∧ w'.cell? ⟨g, m * 5 + 1, none⟩ = some (.int .u8 y.h.op) ∧ w'.cell? ⟨g, m * 5 + 2, none⟩ = some (.string y.h.name) ∧ w'.cell? ⟨g, m * 5 + 3, none⟩ = some (.int .i64 y.h.n) ∧ w'.cell? ⟨g, m * 5 + 4, none⟩ = some (.slice y.q y.k.len y.cap) ∧ w'.cell? ⟨g, u * 5, none⟩ = some (.string fy.name) ∧ w'.cell? ⟨g, u * 5 + 1, none⟩ = some (.int .u8 fy.h.op) ∧ w'.cell? ⟨g, u * 5 + 2, none⟩ = some (.string fy.h.name) ∧ w'.cell? ⟨g, u * 5 + 3, none⟩ = some (.int .i64 fy.h.n) ∧ w'.cell? ⟨g, u * 5 + 4, none⟩ = some (.slice fy.q fy.k.len fy.cap)) ((refine HJ.out _ ?_; (first | assumption | exact (below_drewN (Below.refl _ _) _).drew | exact below_drewN (Below.refl _ _) _ | exact (Below.refl _ _).drew | exact Below.refl _ _ | (go_split_ands; assumption)))) (first | (go_at_call 95; (with_reducible refine (HC.out _ ?_).mono ?_); (first | assumption | exact (below_drewN (Below.refl _ _) _).drew | exact below_drewN (Below.refl _ _) _ | exact (Below.refl _ _).drew | exact Below.refl _ _ | (go_split_ands; assumption)); rintro e w21 ⟨rfl, hc21⟩))
        rename_i hH
        have HBH := Lib.hid hH.1
        clear hH
        go_wp2
        go_roundw
        case rel => exact ⟨i, u, rfl, rfl, hai, by omega, by omega, HS.out, HFL.out.kept HBH.out, grown_cmp HGR.out HBH.out⟩
        case measure => simp [intOf]; omega
      · have hd : decide (c < 0) = false := decide_eq_false hc0
        have HS := Lib.hid (HSP.out.1 (by rw [HCC.out, hd]))
        generalize L[u - a] = fy at *
        go_wp2
        go_region_held3 (fun w' => Below wr.heap.size wr w' ∧ w'.cell? ⟨g, m * 5, none⟩ = some (.string y.name) ∧ w'.cell? ⟨g, m * 5 + 1, none⟩ = some (.int .u8 y.h.op) ∧ w'.cell? ⟨g, m * 5 + 2, none⟩ = some (.string y.h.name) ∧ w'.cell? ⟨g, m * 5 + 3, none⟩ = some (.int .i64 y.h.n) ∧ w'.cell? ⟨g, m * 5 + 4, none⟩ = some (.slice y.q y.k.len y.cap) ∧ w'.cell? ⟨g, u * 5, none⟩ = some (.string fy.name) ∧ w'.cell? ⟨g, u * 5 + 1, none⟩ = some (.int .u8 fy.h.op) ∧ w'.cell? ⟨g, u * 5 + 2, none⟩ = some (.string fy.h.name) ∧ w'.cell? ⟨g, u * 5 + 3, none⟩ = some (.int .i64 fy.h.n) ∧ w'.cell? ⟨g, u * 5 + 4, none⟩ = some (.slice fy.q fy.k.len fy.cap)) ((refine HJ.out _ ?_; (first | assumption | exact (below_drewN (Below.refl _ _) _).drew | exact below_drewN (Below.refl _ _) _ | exact (Below.refl _ _).drew | exact Below.refl _ _ | (go_split_ands; assumption)))) (first | (go_at_call 95; (with_reducible refine (HC.out _ ?_).mono ?_); (first | assumption | exact (below_drewN (Below.refl _ _) _).drew | exact below_drewN (Below.refl _ _) _ | exact (Below.refl _ _).drew | exact Below.refl _ _ | (go_split_ands; assumption)); rintro e w21 ⟨rfl, hc21⟩))
        rename_i hH
        have HBH := Lib.hid hH.1
        clear hH
        go_wp2
        go_roundw
        case rel => exact ⟨u + 1, j, by go_num, rfl, by omega, by omega, hjm, HS.out, HFL.out.kept HBH.out, grown_cmp HGR.out HBH.out⟩
        case measure => simp [intOf]; omega
    · have hje : j = i := by omega
      subst hje
      have hst : FlAt wr B g cap (P ++ L.take (m - a) ++ [y] ++ L.drop (m - a) ++ S) := by
        have h1 := HFL.out
        have := HM.out
        rw [List.take_of_length_le (by omega), List.drop_of_length_le (by omega), List.append_nil]; exact h1
      have HST := Lib.hid hst
      clear hst
      go_wp2
      go_loopw [17] (fun vk wx => ∃ k : Nat, vk = .int .i64 k ∧ j ≤ k ∧ k ≤ m ∧ FlAt wx B g cap (P ++ L.take (k - a) ++ [y] ++ L.drop (k - a) ++ S) ∧ W.grownBy wx (some g)) (fun vk _ => (intOf vk).toNat)
      case atStart => exact ⟨m, rfl, hjm, Nat.le_refl _, HST.out, HGR.out⟩
      case round =>
        obtain ⟨k, rfl, hjk, hkm, hfl, hgr⟩ := hrel
        have HFK := Lib.hid hfl
        have HGK := Lib.hid hgr
        clear hfl hgr
        have hmm := HM.out
        have haa := HA.out
        by_cases hlt2 : j < k
        · have hd2 : decide ((k : Int) > (j : Int)) = true := decide_eq_true (by omega)
          obtain ⟨k', rfl⟩ : ∃ k', k = k' + 1 := ⟨k - 1, by omega⟩
          have hkL : k' - a < L.length := by omega
          have hlen : (P ++ L.take (k' + 1 - a) ++ [y] ++ L.drop (k' + 1 - a) ++ S).length = N := by rw [← HN.out]; simp; omega
          have hi : k' + 1 < (P ++ L.take (k' + 1 - a) ++ [y] ++ L.drop (k' + 1 - a) ++ S).length := by rw [hlen]; omega
          have hj : k' < (P ++ L.take (k' + 1 - a) ++ [y] ++ L.drop (k' + 1 - a) ++ S).length := by rw [hlen]; omega
          obtain ⟨x0, x1, x2, x3, x4⟩ := HFK.out.cells hi
          obtain ⟨y0, y1, y2, y3, y4⟩ := HFK.out.cells hj
          have HZ := Lib.hid (HFK.out.swap hi hj)
          have hsw : swF (P ++ L.take (k' + 1 - a) ++ [y] ++ L.drop (k' + 1 - a) ++ S) (k' + 1) k' = P ++ L.take (k' - a) ++ [y] ++ L.drop (k' - a) ++ S := by
            have e1 : P ++ L.take (k' + 1 - a) ++ [y] ++ L.drop (k' + 1 - a) ++ S = (P ++ L.take (k' - a)) ++ L[k' - a] :: ([] ++ y :: (L.drop (k' - a + 1) ++ S)) := by
              rw [show k' + 1 - a = k' - a + 1 by omega, List.take_succ_eq_append_getElem hkL]; simp only [List.append_assoc, List.cons_append, List.nil_append]
            rw [swF_comm _ (by omega), e1, swF_eq _ _ _ _ _ (by simp; omega) (by simp; omega), List.drop_eq_getElem_cons hkL]
            simp only [List.append_assoc, List.cons_append, List.nil_append]
          have HSW := Lib.hid hsw
          have hz : ∀ o, wr.frozen? ⟨g, o, none⟩ = false := fun o => HFK.out.frozen o
          have p1 : (k' : Int) + 1 < (N : Int) := by omega
          have p2 : ((k' : Int) + 1).toNat = k' + 1 := by omega
          have p3 : (k' : Int) < (N : Int) := by omega
          have p4 : ((k' + 1 : Nat) : Int) - 1 = (k' : Int) := by omega
          have p5 : (k' : Int) + 1 - 1 = (k' : Int) := by omega
          have p6 : (0 : Int) ≤ (k' : Int) + 1 := by omega
          have n00 : ¬ ((k' + 1) * 5 = k' * 5) := by omega
          have n01 : ¬ ((k' + 1) * 5 = k' * 5 + 1) := by omega
          have n02 : ¬ ((k' + 1) * 5 = k' * 5 + 2) := by omega
          have n03 : ¬ ((k' + 1) * 5 = k' * 5 + 3) := by omega
          have n04 : ¬ ((k' + 1) * 5 = k' * 5 + 4) := by omega
          have n10 : ¬ ((k' + 1) * 5 + 1 = k' * 5) := by omega
          have n11 : ¬ ((k' + 1) * 5 + 1 = k' * 5 + 1) := by omega
          have n12 : ¬ ((k' + 1) * 5 + 1 = k' * 5 + 2) := by omega
          have n13 : ¬ ((k' + 1) * 5 + 1 = k' * 5 + 3) := by omega
          have n14 : ¬ ((k' + 1) * 5 + 1 = k' * 5 + 4) := by omega
          have n20 : ¬ ((k' + 1) * 5 + 2 = k' * 5) := by omega
          have n21 : ¬ ((k' + 1) * 5 + 2 = k' * 5 + 1) := by omega
          have n22 : ¬ ((k' + 1) * 5 + 2 = k' * 5 + 2) := by omega
          have n23 : ¬ ((k' + 1) * 5 + 2 = k' * 5 + 3) := by omega
          have n24 : ¬ ((k' + 1) * 5 + 2 = k' * 5 + 4) := by omega
          have n30 : ¬ ((k' + 1) * 5 + 3 = k' * 5) := by omega
          have n31 : ¬ ((k' + 1) * 5 + 3 = k' * 5 + 1) := by omega
          have n32 : ¬ ((k' + 1) * 5 + 3 = k' * 5 + 2) := by omega
          have n33 : ¬ ((k' + 1) * 5 + 3 = k' * 5 + 3) := by omega
          have n34 : ¬ ((k' + 1) * 5 + 3 = k' * 5 + 4) := by omega
          have n40 : ¬ ((k' + 1) * 5 + 4 = k' * 5) := by omega
          have n41 : ¬ ((k' + 1) * 5 + 4 = k' * 5 + 1) := by omega
          have n42 : ¬ ((k' + 1) * 5 + 4 = k' * 5 + 2) := by omega
          have n43 : ¬ ((k' + 1) * 5 + 4 = k' * 5 + 3) := by omega
          have n44 : ¬ ((k' + 1) * 5 + 4 = k' * 5 + 4) := by omega
          clear hsw hlen hmm haa
          generalize (P ++ L.take (k' + 1 - a) ++ [y] ++ L.drop (k' + 1 - a) ++ S)[k' + 1] = fa at *
          generalize (P ++ L.take (k' + 1 - a) ++ [y] ++ L.drop (k' + 1 - a) ++ S)[k'] = fb at *
          go_wp2
          go_big_region
          go_wp2
          go_roundw
          case rel => exact ⟨k', by go_num, by omega, by omega, by rw [← HSW.out]; exact HZ.out.1.drew, grown_drew (grown_again HGK.out HZ.out.2)⟩
          case measure => simp [intOf]
        · have hke : k = j := by omega
          have hd2 : decide ((k : Int) > (j : Int)) = false := decide_eq_false (by omega)
          have HK := Lib.hid hke
          clear hke hmm haa
          go_wp2
          refine bodyPost_ret (results_none rfl _ _ _) rfl ⟨rfl, ?_, HGK.out⟩
          have hf := HFK.out
          have hmm := HM.out
          rw [HK.out] at hf
          have hmr : mrg ltF L [y] = L.take (j - a) ++ y :: L.drop (j - a) := by
            have := mrg_one (lt := ltF) y (L.take (j - a)) (L.drop (j - a)) (fun x hx => by
              obtain ⟨t, ht, rfl⟩ := List.mem_iff_getElem.1 hx
              simp at ht
              rw [List.getElem_take]
              exact (HT.out t (by omega)).1 (by omega)) (fun x hx => by
              obtain ⟨t, ht, rfl⟩ := List.mem_iff_getElem.1 hx
              simp at ht
              rw [List.getElem_drop]
              exact (HT.out (j - a + t) (by omega)).2 (by omega))
            rwa [List.take_append_drop] at this
          rw [hmr]
          simpa using hf
end Go.Proofs.Ytmjijmkdeblefaa

/- The stable sort of fields: symMerge. -/
namespace Go.Proofs.Ytmjijmkdeblefaa
open Go.RowKit LM
set_option linter.unusedVariables false

/-- What the call with these parts must do. -/
def SymOk (n : Nat) : Prop := ∀ (W : World) (B g cap : Nat) (P L R S : List Fld) (a m b N : Nat), L.length + R.length ≤ n → FlAt W B g cap (P ++ L ++ R ++ S) → (P ++ L ++ R ++ S).length = N → a = P.length → m = a + L.length → b = m + R.length → 0 < L.length → 0 < R.length →
  N ≤ 1099511627776 → Ris ltF L → Ris ltF R → Calls Try.prog 129 #[.slice (some ⟨g, 0, none⟩) N cap, .int .i64 a, .int .i64 m, .int .i64 b, .func (.func 95) #[] #[]] W fun e w' => e = .returned (.tuple #[]) ∧ FlAt w' B g cap (P ++ mrg ltF L R ++ S) ∧ W.grownBy w' (some g)

/-- Where the two parts are cut. -/
structure SymCut (L R : List Fld) (a m b mid s : Nat) : Prop where
  la : a ≤ s
  lm : s ≤ m
  lmid : s ≤ mid
  lr : mid ≤ s + R.length
  hb : ∀ (h1 : s < m) (h2 : s < mid) (h3 : s - a < L.length) (h4 : mid - 1 - s < R.length), ltF R[mid - 1 - s] L[s - a] = true
  ha : ∀ (h1 : a < s) (h2 : mid < s + R.length) (h3 : s - 1 - a < L.length) (h4 : mid - s < R.length), ltF R[mid - s] L[s - 1 - a] = false

theorem SymCut.split {L R : List Fld} {a m b mid s : Nat} (h : SymCut L R a m b mid s) (ho : Ord ltF) (hL : Ris ltF L) (hR : Ris ltF R) (hm : m = a + L.length) :
    mrg ltF L R = mrg ltF (L.take (s - a)) (R.take (mid - s)) ++ mrg ltF (L.drop (s - a)) (R.drop (mid - s)) := by
  have hla := h.la
  have hlm := h.lm
  have hlmid := h.lmid
  have hlr := h.lr
  have := mrg_split (lt := ltF) (L.drop (s - a)) (R.drop (mid - s)) (L.take (s - a)) (R.take (mid - s)) (fun x hx y hy => by
    obtain ⟨t, ht, rfl⟩ := List.mem_iff_getElem.1 hx
    obtain ⟨u, hu, rfl⟩ := List.mem_iff_getElem.1 hy
    simp at ht hu
    rw [List.getElem_take, List.getElem_drop]
    have h1 := h.hb (by omega) (by omega) (by omega) (by omega)
    have h2 : ltF R[mid - 1 - s] R[t] = false := by
      by_cases e : t = mid - 1 - s
      · subst e; exact ho.irr _
      · exact List.pairwise_iff_getElem.1 hR t (mid - 1 - s) (by omega) (by omega) (by omega)
    have h3 : ltF L[s - a + u] L[s - a] = false := by
      by_cases e : u = 0
      · subst e; exact ho.irr _
      · exact List.pairwise_iff_getElem.1 hL (s - a) (s - a + u) (by omega) (by omega) (by omega)
    rcases ho.neg _ _ R[t] h1 with h4 | h4
    · rw [h2] at h4; cases h4
    · rcases ho.neg _ _ (L[s - a + u]'(by omega)) h4 with h5 | h5
      · exact h5
      · rw [h3] at h5; cases h5) (fun x hx y hy => by
    obtain ⟨t, ht, rfl⟩ := List.mem_iff_getElem.1 hx
    obtain ⟨u, hu, rfl⟩ := List.mem_iff_getElem.1 hy
    simp at ht hu
    rw [List.getElem_take, List.getElem_drop]
    have h1 := h.ha (by omega) (by omega) (by omega) (by omega)
    have h2 : ltF R[mid - s + t] R[mid - s] = false := by
      by_cases e : t = 0
      · subst e; exact ho.irr _
      · exact List.pairwise_iff_getElem.1 hR (mid - s) (mid - s + t) (by omega) (by omega) (by omega)
    have h3 : ltF L[s - 1 - a] L[u] = false := by
      by_cases e : u = s - 1 - a
      · subst e; exact ho.irr _
      · exact List.pairwise_iff_getElem.1 hL u (s - 1 - a) (by omega) (by omega) (by omega)
    exact ho.le_tr h3 (ho.le_tr h1 h2))
  rwa [List.take_append_drop, List.take_append_drop] at this

set_option maxRecDepth 100000 in
set_option maxHeartbeats 16000000 in
theorem symMerge_big (n : Nat) (ih : SymOk n) (W : World) (B g cap : Nat) (P L R S : List Fld) (a m b N mid : Nat) (hn : L.length + R.length ≤ n + 1) (h : FlAt W B g cap (P ++ L ++ R ++ S)) (hN : (P ++ L ++ R ++ S).length = N) (ha : a = P.length) (hm : m = a + L.length) (hb : b = m + R.length) (hl1 : 2 ≤ L.length) (hr1 : 2 ≤ R.length)
    (hl : N ≤ 1099511627776) (hL : Ris ltF L) (hR : Ris ltF R) (ho : Ord ltF) (hmid : mid = (a + b) / 2) (hcase : mid < m) :
    Calls Try.prog 129 #[.slice (some ⟨g, 0, none⟩) N cap, .int .i64 a, .int .i64 m, .int .i64 b, .func (.func 95) #[] #[]] W fun e w' => e = .returned (.tuple #[]) ∧ FlAt w' B g cap (P ++ mrg ltF L R ++ S) ∧ W.grownBy w' (some g) := by
  have HF := Lib.hid h
  have hbN : b ≤ N := by rw [← hN]; simp; omega
  have HN := Lib.hid hN
  obtain ⟨ll, hll⟩ : ∃ ll, L.length = ll := ⟨_, rfl⟩
  obtain ⟨rl, hrl⟩ : ∃ rl, R.length = rl := ⟨_, rfl⟩
  obtain ⟨st, hst⟩ : ∃ st, mid - rl = st := ⟨_, rfl⟩
  obtain ⟨p, hp⟩ : ∃ p, mid + m - 1 = p := ⟨_, rfl⟩
  rw [hll] at hn hm hl1
  rw [hrl] at hn hb hr1
  have e1 : (m : Int) - (a : Int) = (ll : Int) := by omega
  have e2 : ((ll : Int) == 1) = false := by simp; omega
  have e3 : (b : Int) - (m : Int) = (rl : Int) := by omega
  have e4 : ((rl : Int) == 1) = false := by simp; omega
  have e5 : ((a : Int) + (b : Int)) / 2 = (mid : Int) := by omega
  have e6 : (mid : Int) + (m : Int) - (b : Int) = ((mid + m - b : Nat) : Int) := by omega
  have e7 : (mid : Int) + (m : Int) - 1 = (p : Int) := by omega
  have e8 : (0 : Int) ≤ (a : Int) + (b : Int) := by omega
  have e9 : decide ((m : Int) > (mid : Int)) = true := decide_eq_true (by omega)
  have e10 : mid + m - b = st := by omega
  rw [e10] at e6
  clear e10
  have g1 : st ≤ mid := by omega
  have g2 : a ≤ st := by omega
  have g3 : mid ≤ m := by omega
  have g4 : mid ≤ mid := by omega
  have g5 : mid ≤ st + rl := by omega
  have g6 : m < b := by omega
  have g7 : a < m := by omega
  have g8 : mid < b := by omega
  have g9 : a < mid := by omega
  have g10 : 1 ≤ mid + m := by omega
  have HA := Lib.hid ha
  have HM := Lib.hid hm
  have HB := Lib.hid hb
  have HLL := Lib.hid hll
  have HRL := Lib.hid hrl
  have HST := Lib.hid hst
  have HP := Lib.hid hp
  have HMID := Lib.hid hmid
  have HIH := Lib.hid ih
  have HNN := Lib.hid hn
  clear h hN ha hm hb hll hrl hst hp hmid ih hn
  go_enter Try.func129, Try.ntmps129
  go_wp2
  clear e6 e9 e5
  go_loopw [20, 21] (fun vi vj wr => ∃ i j : Nat, vi = .int .i64 i ∧ vj = .int .i64 j ∧ st ≤ i ∧ i ≤ j ∧ j ≤ mid ∧ Hid (∀ t, (h1 : t - a < L.length) → (h2 : mid - 1 - t < R.length) → (st ≤ t → t < i → ltF R[mid - 1 - t] L[t - a] = false) ∧ (j ≤ t → t < mid → ltF R[mid - 1 - t] L[t - a] = true)) ∧ FlAt wr B g cap (P ++ L ++ R ++ S) ∧ W.grownBy wr (some g)) (fun vi vj _ => (intOf vj).toNat - (intOf vi).toNat)
  case atStart => exact ⟨st, mid, rfl, rfl, Nat.le_refl _, g1, Nat.le_refl _, Lib.hid (fun t h1 h2 => ⟨fun h3 h4 => by omega, fun h3 h4 => by omega⟩), HF.out, ⟨rfl, rfl, rfl, Nat.le_refl _, fun _ _ _ => rfl⟩⟩
  case round =>
    obtain ⟨i, j, rfl, rfl, hsi, hij, hjr, HT, hfl, hgr⟩ := hrel
    have HFL := Lib.hid hfl
    have HGR := Lib.hid hgr
    clear hfl hgr
    by_cases hlt : i < j
    · obtain ⟨u, hu⟩ : ∃ u, (i + j) / 2 = u := ⟨_, rfl⟩
      have p0 : (0 : Int) ≤ (i : Int) + (j : Int) := by omega
      have eh : ((i : Int) + (j : Int)) / 2 = (u : Int) := by omega
      have u0 : i ≤ u := by omega
      have u1 : u < j := by omega
      have u2 : u < N := by omega
      clear hu
      obtain ⟨d, hd⟩ : ∃ d, p - u = d := ⟨_, rfl⟩
      have ed : (p : Int) - (u : Int) = (d : Int) := by have := HP.out; omega
      have ed2 : d < N := by have := HP.out; have := HB.out; omega
      have ed3 : d = m + (mid - 1 - u) := by have := HP.out; omega
      have HD := Lib.hid ed3
      have ew : IntKind.i64.wrap ((p : Int) - (u : Int)) = (d : Int) := by rw [ed]; exact IntWalk.i64_in _ (by omega)
      have ew2 : IntKind.i64.wrap (d : Int) = (d : Int) := IntWalk.i64_in _ (by omega)
      have ed4 : (0 : Int) ≤ (d : Int) := by omega
      have ed5 : (d : Int) < (N : Int) := by omega
      clear hd ed3
      have huL : u - a < L.length := by have := HM.out; have := HLL.out; omega
      have hdR : mid - 1 - u < R.length := by have := HRL.out; omega
      have HJ := Lib.hid (cmp_keep HFL.out (u := d) (v := u) (fa := R[mid - 1 - u]) (fb := L[u - a]) (by
        have := HA.out; have := HM.out; have := HLL.out; have := HD.out
        rw [List.append_assoc, List.getElem?_append_right (by simp; omega), List.getElem?_append_left (by simp; omega), show d - (P ++ L).length = mid - 1 - u by simp; omega]
        exact List.getElem?_eq_getElem hdR) (by
        have := HA.out; have := HM.out
        rw [List.append_assoc, List.append_assoc, List.getElem?_append_right (by omega), List.getElem?_append_left (by omega), show u - P.length = u - a by omega]
        exact List.getElem?_eq_getElem huL))
      have hsplit : (ltF R[mid - 1 - u] L[u - a] = false → Hid (∀ t, (h1 : t - a < L.length) → (h2 : mid - 1 - t < R.length) → (st ≤ t → t < u + 1 → ltF R[mid - 1 - t] L[t - a] = false) ∧ (j ≤ t → t < mid → ltF R[mid - 1 - t] L[t - a] = true))) ∧
          (ltF R[mid - 1 - u] L[u - a] = true → Hid (∀ t, (h1 : t - a < L.length) → (h2 : mid - 1 - t < R.length) → (st ≤ t → t < i → ltF R[mid - 1 - t] L[t - a] = false) ∧ (u ≤ t → t < mid → ltF R[mid - 1 - t] L[t - a] = true))) := by
        have mono : ∀ t u', (h1 : t - a < L.length) → (h2 : mid - 1 - t < R.length) → (h3 : u' - a < L.length) → (h4 : mid - 1 - u' < R.length) → a ≤ t → t ≤ u' → u' < mid → ltF L[u' - a] L[t - a] = false ∧ ltF R[mid - 1 - t] R[mid - 1 - u'] = false := by
          intro t u' h1 h2 h3 h4 h5 h6 h7
          by_cases e : t = u'
          · subst e; exact ⟨ho.irr _, ho.irr _⟩
          · exact ⟨List.pairwise_iff_getElem.1 hL (t - a) (u' - a) h1 h3 (by omega), List.pairwise_iff_getElem.1 hR (mid - 1 - u') (mid - 1 - t) h4 h2 (by omega)⟩
        refine ⟨fun hx => Lib.hid fun t h1 h2 => ⟨fun h3 h4 => ?_, (HT.out t h1 h2).2⟩, fun hx => Lib.hid fun t h1 h2 => ⟨(HT.out t h1 h2).1, fun h3 h4 => ?_⟩⟩
        · obtain ⟨k1, k2⟩ := mono t u h1 h2 huL hdR (by omega) (by omega) (by omega)
          exact ho.le_tr k1 (ho.le_tr hx k2)
        · obtain ⟨k1, k2⟩ := mono u t huL hdR h1 h2 (by omega) h3 (by omega)
          rcases ho.neg _ _ R[mid - 1 - t] hx with h5 | h5
          · rw [k2] at h5; cases h5
          · rcases ho.neg _ _ L[t - a] h5 with h6 | h6
            · exact h6
            · rw [k1] at h6; cases h6
      have HSP := Lib.hid hsplit
      clear hsplit
      obtain ⟨c, hc⟩ : ∃ c, fldCmp R[mid - 1 - u] L[u - a] = c := ⟨_, rfl⟩
      have HC := Lib.hid (cmp_call wr R[mid - 1 - u] L[u - a] c hc)
      have HCC : Hid (ltF R[mid - 1 - u] L[u - a] = decide (c < 0)) := Lib.hid (by unfold ltF; rw [hc])
      clear hc
      by_cases hc0 : c < 0
      · have hd : decide (c < 0) = true := decide_eq_true hc0
        have HS := Lib.hid (HSP.out.2 (by rw [HCC.out, hd]))
        generalize R[mid - 1 - u] = fx at *
        generalize L[u - a] = fy at *
        go_wp2
        go_region_held3 (fun w' => Below wr.heap.size wr w' ∧ w'.cell? ⟨g, d * 5, none⟩ = some (.string fx.name) ∧ w'.cell? ⟨g, d * 5 + 1, none⟩ = some (.int .u8 fx.h.op) ∧ w'.cell? ⟨g, d * 5 + 2, none⟩ = some (.string fx.h.name) ∧ w'.cell? ⟨g, d * 5 + 3, none⟩ = some (.int .i64 fx.h.n) ∧ w'.cell? ⟨g, d * 5 + 4, none⟩ = some (.slice fx.q fx.k.len fx.cap) ∧ w'.cell? ⟨g, u * 5, none⟩ = some (.string fy.name) ∧ w'.cell? ⟨g, u * 5 + 1, none⟩ = some (.int .u8 fy.h.op) ∧ w'.cell? ⟨g, u * 5 + 2, none⟩ = some (.string fy.h.name) ∧ w'.cell? ⟨g, u * 5 + 3, none⟩ = some (.int .i64 fy.h.n) ∧ w'.cell? ⟨g, u * 5 + 4, none⟩ = some (.slice fy.q fy.k.len fy.cap)) ((refine HJ.out _ ?_; (first | assumption | exact (below_drewN (Below.refl _ _) _).drew | exact below_drewN (Below.refl _ _) _ | exact (Below.refl _ _).drew | exact Below.refl _ _ | (go_split_ands; assumption)))) (first | (go_at_call 95; (with_reducible refine (HC.out _ ?_).mono ?_); (first | assumption | exact (below_drewN (Below.refl _ _) _).drew | exact below_drewN (Below.refl _ _) _ | exact (Below.refl _ _).drew | exact Below.refl _ _ | (go_split_ands; assumption)); rintro e w21 ⟨rfl, hc21⟩))
        rename_i hH
        have HBH := Lib.hid hH.1
        clear hH
        go_wp2
        go_roundw
        case rel => exact ⟨i, u, rfl, rfl, hsi, by omega, by omega, HS.out, HFL.out.kept HBH.out, grown_cmp HGR.out HBH.out⟩
        case measure => simp [intOf]; omega
      · have hd : decide (c < 0) = false := decide_eq_false hc0
        have HS := Lib.hid (HSP.out.1 (by rw [HCC.out, hd]))
        generalize R[mid - 1 - u] = fx at *
        generalize L[u - a] = fy at *
        go_wp2
        go_region_held3 (fun w' => Below wr.heap.size wr w' ∧ w'.cell? ⟨g, d * 5, none⟩ = some (.string fx.name) ∧ w'.cell? ⟨g, d * 5 + 1, none⟩ = some (.int .u8 fx.h.op) ∧ w'.cell? ⟨g, d * 5 + 2, none⟩ = some (.string fx.h.name) ∧ w'.cell? ⟨g, d * 5 + 3, none⟩ = some (.int .i64 fx.h.n) ∧ w'.cell? ⟨g, d * 5 + 4, none⟩ = some (.slice fx.q fx.k.len fx.cap) ∧ w'.cell? ⟨g, u * 5, none⟩ = some (.string fy.name) ∧ w'.cell? ⟨g, u * 5 + 1, none⟩ = some (.int .u8 fy.h.op) ∧ w'.cell? ⟨g, u * 5 + 2, none⟩ = some (.string fy.h.name) ∧ w'.cell? ⟨g, u * 5 + 3, none⟩ = some (.int .i64 fy.h.n) ∧ w'.cell? ⟨g, u * 5 + 4, none⟩ = some (.slice fy.q fy.k.len fy.cap)) ((refine HJ.out _ ?_; (first | assumption | exact (below_drewN (Below.refl _ _) _).drew | exact below_drewN (Below.refl _ _) _ | exact (Below.refl _ _).drew | exact Below.refl _ _ | (go_split_ands; assumption)))) (first | (go_at_call 95; (with_reducible refine (HC.out _ ?_).mono ?_); (first | assumption | exact (below_drewN (Below.refl _ _) _).drew | exact below_drewN (Below.refl _ _) _ | exact (Below.refl _ _).drew | exact Below.refl _ _ | (go_split_ands; assumption)); rintro e w21 ⟨rfl, hc21⟩))
        rename_i hH
        have HBH := Lib.hid hH.1
        clear hH
        go_wp2
        go_roundw
        case rel => exact ⟨u + 1, j, by go_num, rfl, by omega, by omega, hjr, HS.out, HFL.out.kept HBH.out, grown_cmp HGR.out HBH.out⟩
        case measure => simp [intOf]; omega
    · have hje : j = i := by omega
      subst hje
      obtain ⟨e, he⟩ : ∃ e, mid + m - j = e := ⟨_, rfl⟩
      have ee : (mid : Int) + (m : Int) - (j : Int) = (e : Int) := by omega
      have hcut : SymCut L R a m b mid j := ⟨by omega, by omega, by omega, by have := HRL.out; omega, fun h1 h2 h3 h4 => (HT.out j h3 h4).2 (Nat.le_refl _) (by omega), fun h1 h2 h3 h4 => by
        have k := (HT.out (j - 1) h3 (by have := HRL.out; omega)).1 (by have := HRL.out; have := HST.out; omega) (by omega)
        simp only [show mid - 1 - (j - 1) = mid - j by omega] at k
        exact k⟩
      have hmr := hcut.split ho hL hR (by have := HM.out; have := HLL.out; omega)
      obtain ⟨L1, hL1⟩ : ∃ L1, L.take (j - a) = L1 := ⟨_, rfl⟩
      obtain ⟨L2, hL2⟩ : ∃ L2, L.drop (j - a) = L2 := ⟨_, rfl⟩
      obtain ⟨R1, hR1⟩ : ∃ R1, R.take (mid - j) = R1 := ⟨_, rfl⟩
      obtain ⟨R2, hR2⟩ : ∃ R2, R.drop (mid - j) = R2 := ⟨_, rfl⟩
      have eL : L = L1 ++ L2 := by rw [← hL1, ← hL2, List.take_append_drop]
      have eR : R = R1 ++ R2 := by rw [← hR1, ← hR2, List.take_append_drop]
      have n1 : L1.length = j - a := by rw [← hL1, List.length_take]; have := HM.out; have := HLL.out; omega
      have n2 : L2.length = m - j := by rw [← hL2, List.length_drop]; have := HM.out; have := HLL.out; omega
      have n3 : R1.length = mid - j := by rw [← hR1, List.length_take]; have := HRL.out; omega
      have n4 : R2.length = j + rl - mid := by rw [← hR2, List.length_drop]; have := HRL.out; omega
      have s1 : Ris ltF L1 := by rw [← hL1]; exact hL.sublist (List.take_sublist _ _)
      have s2 : Ris ltF L2 := by rw [← hL2]; exact hL.sublist (List.drop_sublist _ _)
      have s3 : Ris ltF R1 := by rw [← hR1]; exact hR.sublist (List.take_sublist _ _)
      have s4 : Ris ltF R2 := by rw [← hR2]; exact hR.sublist (List.drop_sublist _ _)
      rw [hL1, hL2, hR1, hR2] at hmr
      have HMR := Lib.hid hmr
      have hNN : P.length + (j - a) + (m - j) + (mid - j) + (j + rl - mid) + S.length = N := by rw [← n1, ← n2, ← n3, ← n4, ← HN.out, eL, eR]; simp; omega
      have hz1 : ∀ l : List Fld, l.length = 0 → l = [] := fun l h => List.length_eq_zero_iff.1 h
      have ROT : Hid (j < m → j < mid → Calls Try.prog 147 #[.slice (some ⟨g, 0, none⟩) N cap, .int .i64 j, .int .i64 m, .int .i64 e, .func (.func 95) #[] #[]] wr fun ed w' => ed = .returned (.tuple #[]) ∧ FlAt w' B g cap (P ++ L1 ++ R1 ++ L2 ++ R2 ++ S) ∧ wr.grownBy w' (some g)) := Lib.hid fun h1 h2 => by
        have hf : FlAt wr B g cap ((P ++ L1) ++ L2 ++ R1 ++ (R2 ++ S)) := by have := HFL.out; rw [eL, eR] at this; simpa using this
        have := rotate_any wr B g cap (P ++ L1) L2 R1 (R2 ++ S) j m e N (.func (.func 95) #[] #[]) hf (by simp; omega) (by simp; have := HA.out; omega) (by omega) (by omega) (by omega) (by omega) hl
        refine this.mono fun ed w' hh => ⟨hh.1, ?_, hh.2.2⟩
        have h3 := hh.2.1
        simpa using h3
      have NOR : Hid (¬ (j < m ∧ j < mid) → FlAt wr B g cap (P ++ L1 ++ R1 ++ L2 ++ R2 ++ S)) := Lib.hid fun hx => by
        have hf := HFL.out
        rw [eL, eR] at hf
        by_cases h1 : j < m
        · have : R1 = [] := hz1 _ (by omega)
          rw [this] at hf ⊢; simpa using hf
        · have : L2 = [] := hz1 _ (by omega)
          rw [this] at hf ⊢; simpa using hf
      have LEF : Hid (∀ w', FlAt w' B g cap (P ++ L1 ++ R1 ++ L2 ++ R2 ++ S) → a < j → j < mid → Calls Try.prog 129 #[.slice (some ⟨g, 0, none⟩) N cap, .int .i64 a, .int .i64 j, .int .i64 mid, .func (.func 95) #[] #[]] w' fun ed w2 => ed = .returned (.tuple #[]) ∧ FlAt w2 B g cap (P ++ mrg ltF L1 R1 ++ L2 ++ R2 ++ S) ∧ w'.grownBy w2 (some g)) := Lib.hid fun w' hf h1 h2 => by
        have hnn := HNN.out
        have := HIH.out w' B g cap P L1 R1 (L2 ++ R2 ++ S) a j mid N (by have := HMID.out; have := HM.out; have := HB.out; omega) (by simpa using hf) (by simp; omega) HA.out (by omega) (by omega) (by omega) (by omega) hl s1 s3
        refine this.mono fun ed w2 hh => ⟨hh.1, ?_, hh.2.2⟩
        have h3 := hh.2.1
        simpa using h3
      have NOL : Hid (∀ w', ¬ (a < j ∧ j < mid) → FlAt w' B g cap (P ++ L1 ++ R1 ++ L2 ++ R2 ++ S) → FlAt w' B g cap (P ++ mrg ltF L1 R1 ++ L2 ++ R2 ++ S)) := Lib.hid fun w' hx hf => by
        by_cases h1 : a < j
        · have : R1 = [] := hz1 _ (by omega)
          rw [this] at hf ⊢; rw [mrg_nil]; simpa using hf
        · have : L1 = [] := hz1 _ (by omega)
          rw [this] at hf ⊢; rw [nil_mrg]; simpa using hf
      have RIG : Hid (∀ w', FlAt w' B g cap (P ++ mrg ltF L1 R1 ++ L2 ++ R2 ++ S) → j < m → e < b → Calls Try.prog 129 #[.slice (some ⟨g, 0, none⟩) N cap, .int .i64 mid, .int .i64 e, .int .i64 b, .func (.func 95) #[] #[]] w' fun ed w2 => ed = .returned (.tuple #[]) ∧ FlAt w2 B g cap (P ++ mrg ltF L R ++ S) ∧ w'.grownBy w2 (some g)) := Lib.hid fun w' hf h1 h2 => by
        have hnn := HNN.out
        have := HIH.out w' B g cap (P ++ mrg ltF L1 R1) L2 R2 S mid e b N (by have := HMID.out; have := HM.out; have := HB.out; omega) (by simpa using hf) (by simp [length_mrg]; omega) (by simp [length_mrg]; have := HA.out; omega) (by omega) (by have := HB.out; omega) (by omega) (by have := HB.out; omega) hl s2 s4
        refine this.mono fun ed w2 hh => ⟨hh.1, ?_, hh.2.2⟩
        have h3 := hh.2.1
        rw [HMR.out]
        simpa using h3
      have NOG : Hid (∀ w', ¬ (j < m ∧ e < b) → FlAt w' B g cap (P ++ mrg ltF L1 R1 ++ L2 ++ R2 ++ S) → FlAt w' B g cap (P ++ mrg ltF L R ++ S)) := Lib.hid fun w' hx hf => by
        rw [HMR.out]
        by_cases h1 : j < m
        · have : R2 = [] := hz1 _ (by have := HB.out; omega)
          rw [this] at hf ⊢; rw [mrg_nil]; simpa using hf
        · have : L2 = [] := hz1 _ (by omega)
          rw [this] at hf ⊢; rw [nil_mrg]; simpa using hf
      clear hcut hmr hL1 hL2 hR1 hR2 eL eR n1 n2 n3 n4 s1 s2 s3 s4 hNN hz1
      by_cases hA : j < m <;> by_cases hB : j < mid <;> by_cases hC : a < j <;> by_cases hD : e < b
      · have t1 : (m < e) := by omega
        have t2 : (mid < e) := by omega
        clear he
        go_wp2_with fail
        refine (ROT.out hA hB).mono ?_
        rintro ed w1 ⟨rfl, hf, hg⟩
        have HF1 := Lib.hid hf
        have HG1 := Lib.hid (grown_again HGR.out hg)
        clear hf hg
        go_wp2_with fail
        refine (LEF.out w1 HF1.out hC hB).mono ?_
        rintro ed w2 ⟨rfl, hf, hg⟩
        have HF2 := Lib.hid hf
        have HG2 := Lib.hid (grown_again HG1.out hg)
        clear hf hg
        go_wp2_with fail
        refine (RIG.out w2 HF2.out hA hD).mono ?_
        rintro ed w3 ⟨rfl, hf, hg⟩
        have HF3 := Lib.hid hf
        have HG3 := Lib.hid (grown_again HG2.out hg)
        clear hf hg
        go_wp2
        go_end0
        exact ⟨rfl, HF3.out, HG3.out⟩
      · have t1 : (m < e) := by omega
        have t2 : (mid < e) := by omega
        clear he
        go_wp2_with fail
        refine (ROT.out hA hB).mono ?_
        rintro ed w1 ⟨rfl, hf, hg⟩
        have HF1 := Lib.hid hf
        have HG1 := Lib.hid (grown_again HGR.out hg)
        clear hf hg
        go_wp2_with fail
        refine (LEF.out w1 HF1.out hC hB).mono ?_
        rintro ed w2 ⟨rfl, hf, hg⟩
        have HF2 := Lib.hid hf
        have HG2 := Lib.hid (grown_again HG1.out hg)
        clear hf hg
        have HF3 := Lib.hid (NOG.out w2 (fun hx => by first | exact hA hx.1 | exact hD hx.2) HF2.out)
        go_wp2
        go_end0
        exact ⟨rfl, HF3.out, HG2.out⟩
      · have t1 : (m < e) := by omega
        have t2 : (mid < e) := by omega
        clear he
        go_wp2_with fail
        refine (ROT.out hA hB).mono ?_
        rintro ed w1 ⟨rfl, hf, hg⟩
        have HF1 := Lib.hid hf
        have HG1 := Lib.hid (grown_again HGR.out hg)
        clear hf hg
        have HF2 := Lib.hid (NOL.out w1 (fun hx => by first | exact hC hx.1 | exact hB hx.2) HF1.out)
        go_wp2_with fail
        refine (RIG.out w1 HF2.out hA hD).mono ?_
        rintro ed w3 ⟨rfl, hf, hg⟩
        have HF3 := Lib.hid hf
        have HG3 := Lib.hid (grown_again HG1.out hg)
        clear hf hg
        go_wp2
        go_end0
        exact ⟨rfl, HF3.out, HG3.out⟩
      · have t1 : (m < e) := by omega
        have t2 : (mid < e) := by omega
        clear he
        go_wp2_with fail
        refine (ROT.out hA hB).mono ?_
        rintro ed w1 ⟨rfl, hf, hg⟩
        have HF1 := Lib.hid hf
        have HG1 := Lib.hid (grown_again HGR.out hg)
        clear hf hg
        have HF2 := Lib.hid (NOL.out w1 (fun hx => by first | exact hC hx.1 | exact hB hx.2) HF1.out)
        have HF3 := Lib.hid (NOG.out w1 (fun hx => by first | exact hA hx.1 | exact hD hx.2) HF2.out)
        go_wp2
        go_end0
        exact ⟨rfl, HF3.out, HG1.out⟩
      · have t1 : ¬ (m < e) := by omega
        have t2 : (mid < e) := by omega
        clear he
        have HF1 := Lib.hid (NOR.out (fun hx => by first | exact hA hx.1 | exact hB hx.2))
        have HF2 := Lib.hid (NOL.out wr (fun hx => by first | exact hC hx.1 | exact hB hx.2) HF1.out)
        go_wp2_with fail
        refine (RIG.out wr HF2.out hA hD).mono ?_
        rintro ed w3 ⟨rfl, hf, hg⟩
        have HF3 := Lib.hid hf
        have HG3 := Lib.hid (grown_again HGR.out hg)
        clear hf hg
        go_wp2
        go_end0
        exact ⟨rfl, HF3.out, HG3.out⟩
      · have t1 : ¬ (m < e) := by omega
        have t2 : (mid < e) := by omega
        clear he
        have HF1 := Lib.hid (NOR.out (fun hx => by first | exact hA hx.1 | exact hB hx.2))
        have HF2 := Lib.hid (NOL.out wr (fun hx => by first | exact hC hx.1 | exact hB hx.2) HF1.out)
        have HF3 := Lib.hid (NOG.out wr (fun hx => by first | exact hA hx.1 | exact hD hx.2) HF2.out)
        go_wp2
        go_end0
        exact ⟨rfl, HF3.out, HGR.out⟩
      · have t1 : ¬ (m < e) := by omega
        have t2 : (mid < e) := by omega
        clear he
        have HF1 := Lib.hid (NOR.out (fun hx => by first | exact hA hx.1 | exact hB hx.2))
        have HF2 := Lib.hid (NOL.out wr (fun hx => by first | exact hC hx.1 | exact hB hx.2) HF1.out)
        go_wp2_with fail
        refine (RIG.out wr HF2.out hA hD).mono ?_
        rintro ed w3 ⟨rfl, hf, hg⟩
        have HF3 := Lib.hid hf
        have HG3 := Lib.hid (grown_again HGR.out hg)
        clear hf hg
        go_wp2
        go_end0
        exact ⟨rfl, HF3.out, HG3.out⟩
      · have t1 : ¬ (m < e) := by omega
        have t2 : (mid < e) := by omega
        clear he
        have HF1 := Lib.hid (NOR.out (fun hx => by first | exact hA hx.1 | exact hB hx.2))
        have HF2 := Lib.hid (NOL.out wr (fun hx => by first | exact hC hx.1 | exact hB hx.2) HF1.out)
        have HF3 := Lib.hid (NOG.out wr (fun hx => by first | exact hA hx.1 | exact hD hx.2) HF2.out)
        go_wp2
        go_end0
        exact ⟨rfl, HF3.out, HGR.out⟩
      · have t1 : (m < e) := by omega
        have t2 : ¬ (mid < e) := by omega
        clear he
        have HF1 := Lib.hid (NOR.out (fun hx => by first | exact hA hx.1 | exact hB hx.2))
        go_wp2_with fail
        refine (LEF.out wr HF1.out hC hB).mono ?_
        rintro ed w2 ⟨rfl, hf, hg⟩
        have HF2 := Lib.hid hf
        have HG2 := Lib.hid (grown_again HGR.out hg)
        clear hf hg
        have HF3 := Lib.hid (NOG.out w2 (fun hx => by first | exact hA hx.1 | exact hD hx.2) HF2.out)
        go_wp2
        go_end0
        exact ⟨rfl, HF3.out, HG2.out⟩
      · have t1 : (m < e) := by omega
        have t2 : ¬ (mid < e) := by omega
        clear he
        have HF1 := Lib.hid (NOR.out (fun hx => by first | exact hA hx.1 | exact hB hx.2))
        go_wp2_with fail
        refine (LEF.out wr HF1.out hC hB).mono ?_
        rintro ed w2 ⟨rfl, hf, hg⟩
        have HF2 := Lib.hid hf
        have HG2 := Lib.hid (grown_again HGR.out hg)
        clear hf hg
        have HF3 := Lib.hid (NOG.out w2 (fun hx => by first | exact hA hx.1 | exact hD hx.2) HF2.out)
        go_wp2
        go_end0
        exact ⟨rfl, HF3.out, HG2.out⟩
      · have t1 : (m < e) := by omega
        have t2 : ¬ (mid < e) := by omega
        clear he
        have HF1 := Lib.hid (NOR.out (fun hx => by first | exact hA hx.1 | exact hB hx.2))
        have HF2 := Lib.hid (NOL.out wr (fun hx => by first | exact hC hx.1 | exact hB hx.2) HF1.out)
        have HF3 := Lib.hid (NOG.out wr (fun hx => by first | exact hA hx.1 | exact hD hx.2) HF2.out)
        go_wp2
        go_end0
        exact ⟨rfl, HF3.out, HGR.out⟩
      · have t1 : (m < e) := by omega
        have t2 : ¬ (mid < e) := by omega
        clear he
        have HF1 := Lib.hid (NOR.out (fun hx => by first | exact hA hx.1 | exact hB hx.2))
        have HF2 := Lib.hid (NOL.out wr (fun hx => by first | exact hC hx.1 | exact hB hx.2) HF1.out)
        have HF3 := Lib.hid (NOG.out wr (fun hx => by first | exact hA hx.1 | exact hD hx.2) HF2.out)
        go_wp2
        go_end0
        exact ⟨rfl, HF3.out, HGR.out⟩
      · have t1 : ¬ (m < e) := by omega
        have t2 : ¬ (mid < e) := by omega
        clear he
        have HF1 := Lib.hid (NOR.out (fun hx => by first | exact hA hx.1 | exact hB hx.2))
        have HF2 := Lib.hid (NOL.out wr (fun hx => by first | exact hC hx.1 | exact hB hx.2) HF1.out)
        have HF3 := Lib.hid (NOG.out wr (fun hx => by first | exact hA hx.1 | exact hD hx.2) HF2.out)
        go_wp2
        go_end0
        exact ⟨rfl, HF3.out, HGR.out⟩
      · have t1 : ¬ (m < e) := by omega
        have t2 : ¬ (mid < e) := by omega
        clear he
        have HF1 := Lib.hid (NOR.out (fun hx => by first | exact hA hx.1 | exact hB hx.2))
        have HF2 := Lib.hid (NOL.out wr (fun hx => by first | exact hC hx.1 | exact hB hx.2) HF1.out)
        have HF3 := Lib.hid (NOG.out wr (fun hx => by first | exact hA hx.1 | exact hD hx.2) HF2.out)
        go_wp2
        go_end0
        exact ⟨rfl, HF3.out, HGR.out⟩
      · have t1 : ¬ (m < e) := by omega
        have t2 : ¬ (mid < e) := by omega
        clear he
        have HF1 := Lib.hid (NOR.out (fun hx => by first | exact hA hx.1 | exact hB hx.2))
        have HF2 := Lib.hid (NOL.out wr (fun hx => by first | exact hC hx.1 | exact hB hx.2) HF1.out)
        have HF3 := Lib.hid (NOG.out wr (fun hx => by first | exact hA hx.1 | exact hD hx.2) HF2.out)
        go_wp2
        go_end0
        exact ⟨rfl, HF3.out, HGR.out⟩
      · have t1 : ¬ (m < e) := by omega
        have t2 : ¬ (mid < e) := by omega
        clear he
        have HF1 := Lib.hid (NOR.out (fun hx => by first | exact hA hx.1 | exact hB hx.2))
        have HF2 := Lib.hid (NOL.out wr (fun hx => by first | exact hC hx.1 | exact hB hx.2) HF1.out)
        have HF3 := Lib.hid (NOG.out wr (fun hx => by first | exact hA hx.1 | exact hD hx.2) HF2.out)
        go_wp2
        go_end0
        exact ⟨rfl, HF3.out, HGR.out⟩
end Go.Proofs.Ytmjijmkdeblefaa

/- The stable sort of fields: symMerge, the other case. -/
namespace Go.Proofs.Ytmjijmkdeblefaa
open Go.RowKit LM
set_option linter.unusedVariables false

set_option maxRecDepth 100000 in
set_option maxHeartbeats 16000000 in
theorem symMerge_low (n : Nat) (ih : SymOk n) (W : World) (B g cap : Nat) (P L R S : List Fld) (a m b N mid : Nat) (hn : L.length + R.length ≤ n + 1) (h : FlAt W B g cap (P ++ L ++ R ++ S)) (hN : (P ++ L ++ R ++ S).length = N) (ha : a = P.length) (hm : m = a + L.length) (hb : b = m + R.length) (hl1 : 2 ≤ L.length) (hr1 : 2 ≤ R.length)
    (hl : N ≤ 1099511627776) (hL : Ris ltF L) (hR : Ris ltF R) (ho : Ord ltF) (hmid : mid = (a + b) / 2) (hcase : m ≤ mid) :
    Calls Try.prog 129 #[.slice (some ⟨g, 0, none⟩) N cap, .int .i64 a, .int .i64 m, .int .i64 b, .func (.func 95) #[] #[]] W fun e w' => e = .returned (.tuple #[]) ∧ FlAt w' B g cap (P ++ mrg ltF L R ++ S) ∧ W.grownBy w' (some g) := by
  have HF := Lib.hid h
  have hbN : b ≤ N := by rw [← hN]; simp; omega
  have HN := Lib.hid hN
  obtain ⟨ll, hll⟩ : ∃ ll, L.length = ll := ⟨_, rfl⟩
  obtain ⟨rl, hrl⟩ : ∃ rl, R.length = rl := ⟨_, rfl⟩
  have hst : a = a := rfl
  obtain ⟨p, hp⟩ : ∃ p, mid + m - 1 = p := ⟨_, rfl⟩
  rw [hll] at hn hm hl1
  rw [hrl] at hn hb hr1
  have e1 : (m : Int) - (a : Int) = (ll : Int) := by omega
  have e2 : ((ll : Int) == 1) = false := by simp; omega
  have e3 : (b : Int) - (m : Int) = (rl : Int) := by omega
  have e4 : ((rl : Int) == 1) = false := by simp; omega
  have e5 : ((a : Int) + (b : Int)) / 2 = (mid : Int) := by omega
  have e6 : 0 = 0 := rfl
  have e7 : (mid : Int) + (m : Int) - 1 = (p : Int) := by omega
  have e8 : (0 : Int) ≤ (a : Int) + (b : Int) := by omega
  have e9 : decide ((m : Int) > (mid : Int)) = false := decide_eq_false (by omega)
  have e10 : 0 = 0 := rfl
  skip
  clear e10
  have g1 : a ≤ m := by omega
  have g2 : a ≤ a := by omega
  have g3 : m ≤ m := by omega
  have g4 : m ≤ mid := by omega
  have g5 : mid ≤ a + rl := by omega
  have g6 : m < b := by omega
  have g7 : a < m := by omega
  have g8 : mid < b := by omega
  have g9 : a < mid := by omega
  have g10 : 1 ≤ mid + m := by omega
  have HA := Lib.hid ha
  have HM := Lib.hid hm
  have HB := Lib.hid hb
  have HLL := Lib.hid hll
  have HRL := Lib.hid hrl
  have HST := Lib.hid hst
  have HP := Lib.hid hp
  have HMID := Lib.hid hmid
  have HIH := Lib.hid ih
  have HNN := Lib.hid hn
  clear h hN ha hm hb hll hrl hst hp hmid ih hn
  go_enter Try.func129, Try.ntmps129
  go_wp2
  clear e6 e9 e5
  go_loopw [20, 21] (fun vi vj wr => ∃ i j : Nat, vi = .int .i64 i ∧ vj = .int .i64 j ∧ a ≤ i ∧ i ≤ j ∧ j ≤ m ∧ Hid (∀ t, (h1 : t - a < L.length) → (h2 : mid - 1 - t < R.length) → (a ≤ t → t < i → ltF R[mid - 1 - t] L[t - a] = false) ∧ (j ≤ t → t < m → ltF R[mid - 1 - t] L[t - a] = true)) ∧ FlAt wr B g cap (P ++ L ++ R ++ S) ∧ W.grownBy wr (some g)) (fun vi vj _ => (intOf vj).toNat - (intOf vi).toNat)
  case atStart => exact ⟨a, m, rfl, rfl, Nat.le_refl _, g1, Nat.le_refl _, Lib.hid (fun t h1 h2 => ⟨fun h3 h4 => by omega, fun h3 h4 => by omega⟩), HF.out, ⟨rfl, rfl, rfl, Nat.le_refl _, fun _ _ _ => rfl⟩⟩
  case round =>
    obtain ⟨i, j, rfl, rfl, hsi, hij, hjr, HT, hfl, hgr⟩ := hrel
    have HFL := Lib.hid hfl
    have HGR := Lib.hid hgr
    clear hfl hgr
    by_cases hlt : i < j
    · obtain ⟨u, hu⟩ : ∃ u, (i + j) / 2 = u := ⟨_, rfl⟩
      have p0 : (0 : Int) ≤ (i : Int) + (j : Int) := by omega
      have eh : ((i : Int) + (j : Int)) / 2 = (u : Int) := by omega
      have u0 : i ≤ u := by omega
      have u1 : u < j := by omega
      have u2 : u < N := by omega
      clear hu
      obtain ⟨d, hd⟩ : ∃ d, p - u = d := ⟨_, rfl⟩
      have ed : (p : Int) - (u : Int) = (d : Int) := by have := HP.out; omega
      have ed2 : d < N := by have := HP.out; have := HB.out; omega
      have ed3 : d = m + (mid - 1 - u) := by have := HP.out; omega
      have HD := Lib.hid ed3
      have ew : IntKind.i64.wrap ((p : Int) - (u : Int)) = (d : Int) := by rw [ed]; exact IntWalk.i64_in _ (by omega)
      have ew2 : IntKind.i64.wrap (d : Int) = (d : Int) := IntWalk.i64_in _ (by omega)
      have ed4 : (0 : Int) ≤ (d : Int) := by omega
      have ed5 : (d : Int) < (N : Int) := by omega
      clear hd ed3
      have huL : u - a < L.length := by have := HM.out; have := HLL.out; omega
      have hdR : mid - 1 - u < R.length := by have := HRL.out; omega
      have HJ := Lib.hid (cmp_keep HFL.out (u := d) (v := u) (fa := R[mid - 1 - u]) (fb := L[u - a]) (by
        have := HA.out; have := HM.out; have := HLL.out; have := HD.out
        rw [List.append_assoc, List.getElem?_append_right (by simp; omega), List.getElem?_append_left (by simp; omega), show d - (P ++ L).length = mid - 1 - u by simp; omega]
        exact List.getElem?_eq_getElem hdR) (by
        have := HA.out; have := HM.out
        rw [List.append_assoc, List.append_assoc, List.getElem?_append_right (by omega), List.getElem?_append_left (by omega), show u - P.length = u - a by omega]
        exact List.getElem?_eq_getElem huL))
      have hsplit : (ltF R[mid - 1 - u] L[u - a] = false → Hid (∀ t, (h1 : t - a < L.length) → (h2 : mid - 1 - t < R.length) → (a ≤ t → t < u + 1 → ltF R[mid - 1 - t] L[t - a] = false) ∧ (j ≤ t → t < m → ltF R[mid - 1 - t] L[t - a] = true))) ∧
          (ltF R[mid - 1 - u] L[u - a] = true → Hid (∀ t, (h1 : t - a < L.length) → (h2 : mid - 1 - t < R.length) → (a ≤ t → t < i → ltF R[mid - 1 - t] L[t - a] = false) ∧ (u ≤ t → t < m → ltF R[mid - 1 - t] L[t - a] = true))) := by
        have mono : ∀ t u', (h1 : t - a < L.length) → (h2 : mid - 1 - t < R.length) → (h3 : u' - a < L.length) → (h4 : mid - 1 - u' < R.length) → a ≤ t → t ≤ u' → u' < mid → ltF L[u' - a] L[t - a] = false ∧ ltF R[mid - 1 - t] R[mid - 1 - u'] = false := by
          intro t u' h1 h2 h3 h4 h5 h6 h7
          by_cases e : t = u'
          · subst e; exact ⟨ho.irr _, ho.irr _⟩
          · exact ⟨List.pairwise_iff_getElem.1 hL (t - a) (u' - a) h1 h3 (by omega), List.pairwise_iff_getElem.1 hR (mid - 1 - u') (mid - 1 - t) h4 h2 (by omega)⟩
        refine ⟨fun hx => Lib.hid fun t h1 h2 => ⟨fun h3 h4 => ?_, (HT.out t h1 h2).2⟩, fun hx => Lib.hid fun t h1 h2 => ⟨(HT.out t h1 h2).1, fun h3 h4 => ?_⟩⟩
        · obtain ⟨k1, k2⟩ := mono t u h1 h2 huL hdR (by omega) (by omega) (by omega)
          exact ho.le_tr k1 (ho.le_tr hx k2)
        · obtain ⟨k1, k2⟩ := mono u t huL hdR h1 h2 (by omega) h3 (by omega)
          rcases ho.neg _ _ R[mid - 1 - t] hx with h5 | h5
          · rw [k2] at h5; cases h5
          · rcases ho.neg _ _ L[t - a] h5 with h6 | h6
            · exact h6
            · rw [k1] at h6; cases h6
      have HSP := Lib.hid hsplit
      clear hsplit
      obtain ⟨c, hc⟩ : ∃ c, fldCmp R[mid - 1 - u] L[u - a] = c := ⟨_, rfl⟩
      have HC := Lib.hid (cmp_call wr R[mid - 1 - u] L[u - a] c hc)
      have HCC : Hid (ltF R[mid - 1 - u] L[u - a] = decide (c < 0)) := Lib.hid (by unfold ltF; rw [hc])
      clear hc
      by_cases hc0 : c < 0
      · have hd : decide (c < 0) = true := decide_eq_true hc0
        have HS := Lib.hid (HSP.out.2 (by rw [HCC.out, hd]))
        generalize R[mid - 1 - u] = fx at *
        generalize L[u - a] = fy at *
        go_wp2
        go_region_held3 (fun w' => Below wr.heap.size wr w' ∧ w'.cell? ⟨g, d * 5, none⟩ = some (.string fx.name) ∧ w'.cell? ⟨g, d * 5 + 1, none⟩ = some (.int .u8 fx.h.op) ∧ w'.cell? ⟨g, d * 5 + 2, none⟩ = some (.string fx.h.name) ∧ w'.cell? ⟨g, d * 5 + 3, none⟩ = some (.int .i64 fx.h.n) ∧ w'.cell? ⟨g, d * 5 + 4, none⟩ = some (.slice fx.q fx.k.len fx.cap) ∧ w'.cell? ⟨g, u * 5, none⟩ = some (.string fy.name) ∧ w'.cell? ⟨g, u * 5 + 1, none⟩ = some (.int .u8 fy.h.op) ∧ w'.cell? ⟨g, u * 5 + 2, none⟩ = some (.string fy.h.name) ∧ w'.cell? ⟨g, u * 5 + 3, none⟩ = some (.int .i64 fy.h.n) ∧ w'.cell? ⟨g, u * 5 + 4, none⟩ = some (.slice fy.q fy.k.len fy.cap)) ((refine HJ.out _ ?_; (first | assumption | exact (below_drewN (Below.refl _ _) _).drew | exact below_drewN (Below.refl _ _) _ | exact (Below.refl _ _).drew | exact Below.refl _ _ | (go_split_ands; assumption)))) (first | (go_at_call 95; (with_reducible refine (HC.out _ ?_).mono ?_); (first | assumption | exact (below_drewN (Below.refl _ _) _).drew | exact below_drewN (Below.refl _ _) _ | exact (Below.refl _ _).drew | exact Below.refl _ _ | (go_split_ands; assumption)); rintro e w21 ⟨rfl, hc21⟩))
        rename_i hH
        have HBH := Lib.hid hH.1
        clear hH
        go_wp2
        go_roundw
        case rel => exact ⟨i, u, rfl, rfl, hsi, by omega, by omega, HS.out, HFL.out.kept HBH.out, grown_cmp HGR.out HBH.out⟩
        case measure => simp [intOf]; omega
      · have hd : decide (c < 0) = false := decide_eq_false hc0
        have HS := Lib.hid (HSP.out.1 (by rw [HCC.out, hd]))
        generalize R[mid - 1 - u] = fx at *
        generalize L[u - a] = fy at *
        go_wp2
        go_region_held3 (fun w' => Below wr.heap.size wr w' ∧ w'.cell? ⟨g, d * 5, none⟩ = some (.string fx.name) ∧ w'.cell? ⟨g, d * 5 + 1, none⟩ = some (.int .u8 fx.h.op) ∧ w'.cell? ⟨g, d * 5 + 2, none⟩ = some (.string fx.h.name) ∧ w'.cell? ⟨g, d * 5 + 3, none⟩ = some (.int .i64 fx.h.n) ∧ w'.cell? ⟨g, d * 5 + 4, none⟩ = some (.slice fx.q fx.k.len fx.cap) ∧ w'.cell? ⟨g, u * 5, none⟩ = some (.string fy.name) ∧ w'.cell? ⟨g, u * 5 + 1, none⟩ = some (.int .u8 fy.h.op) ∧ w'.cell? ⟨g, u * 5 + 2, none⟩ = some (.string fy.h.name) ∧ w'.cell? ⟨g, u * 5 + 3, none⟩ = some (.int .i64 fy.h.n) ∧ w'.cell? ⟨g, u * 5 + 4, none⟩ = some (.slice fy.q fy.k.len fy.cap)) ((refine HJ.out _ ?_; (first | assumption | exact (below_drewN (Below.refl _ _) _).drew | exact below_drewN (Below.refl _ _) _ | exact (Below.refl _ _).drew | exact Below.refl _ _ | (go_split_ands; assumption)))) (first | (go_at_call 95; (with_reducible refine (HC.out _ ?_).mono ?_); (first | assumption | exact (below_drewN (Below.refl _ _) _).drew | exact below_drewN (Below.refl _ _) _ | exact (Below.refl _ _).drew | exact Below.refl _ _ | (go_split_ands; assumption)); rintro e w21 ⟨rfl, hc21⟩))
        rename_i hH
        have HBH := Lib.hid hH.1
        clear hH
        go_wp2
        go_roundw
        case rel => exact ⟨u + 1, j, by go_num, rfl, by omega, by omega, hjr, HS.out, HFL.out.kept HBH.out, grown_cmp HGR.out HBH.out⟩
        case measure => simp [intOf]; omega
    · have hje : j = i := by omega
      subst hje
      obtain ⟨e, he⟩ : ∃ e, mid + m - j = e := ⟨_, rfl⟩
      have ee : (mid : Int) + (m : Int) - (j : Int) = (e : Int) := by omega
      have hcut : SymCut L R a m b mid j := ⟨by omega, by omega, by omega, by have := HRL.out; omega, fun h1 h2 h3 h4 => (HT.out j h3 h4).2 (Nat.le_refl _) (by omega), fun h1 h2 h3 h4 => by
        have k := (HT.out (j - 1) h3 (by have := HRL.out; omega)).1 (by have := HRL.out; have := HST.out; omega) (by omega)
        simp only [show mid - 1 - (j - 1) = mid - j by omega] at k
        exact k⟩
      have hmr := hcut.split ho hL hR (by have := HM.out; have := HLL.out; omega)
      obtain ⟨L1, hL1⟩ : ∃ L1, L.take (j - a) = L1 := ⟨_, rfl⟩
      obtain ⟨L2, hL2⟩ : ∃ L2, L.drop (j - a) = L2 := ⟨_, rfl⟩
      obtain ⟨R1, hR1⟩ : ∃ R1, R.take (mid - j) = R1 := ⟨_, rfl⟩
      obtain ⟨R2, hR2⟩ : ∃ R2, R.drop (mid - j) = R2 := ⟨_, rfl⟩
      have eL : L = L1 ++ L2 := by rw [← hL1, ← hL2, List.take_append_drop]
      have eR : R = R1 ++ R2 := by rw [← hR1, ← hR2, List.take_append_drop]
      have n1 : L1.length = j - a := by rw [← hL1, List.length_take]; have := HM.out; have := HLL.out; omega
      have n2 : L2.length = m - j := by rw [← hL2, List.length_drop]; have := HM.out; have := HLL.out; omega
      have n3 : R1.length = mid - j := by rw [← hR1, List.length_take]; have := HRL.out; omega
      have n4 : R2.length = j + rl - mid := by rw [← hR2, List.length_drop]; have := HRL.out; omega
      have s1 : Ris ltF L1 := by rw [← hL1]; exact hL.sublist (List.take_sublist _ _)
      have s2 : Ris ltF L2 := by rw [← hL2]; exact hL.sublist (List.drop_sublist _ _)
      have s3 : Ris ltF R1 := by rw [← hR1]; exact hR.sublist (List.take_sublist _ _)
      have s4 : Ris ltF R2 := by rw [← hR2]; exact hR.sublist (List.drop_sublist _ _)
      rw [hL1, hL2, hR1, hR2] at hmr
      have HMR := Lib.hid hmr
      have hNN : P.length + (j - a) + (m - j) + (mid - j) + (j + rl - mid) + S.length = N := by rw [← n1, ← n2, ← n3, ← n4, ← HN.out, eL, eR]; simp; omega
      have hz1 : ∀ l : List Fld, l.length = 0 → l = [] := fun l h => List.length_eq_zero_iff.1 h
      have ROT : Hid (j < m → j < mid → Calls Try.prog 147 #[.slice (some ⟨g, 0, none⟩) N cap, .int .i64 j, .int .i64 m, .int .i64 e, .func (.func 95) #[] #[]] wr fun ed w' => ed = .returned (.tuple #[]) ∧ FlAt w' B g cap (P ++ L1 ++ R1 ++ L2 ++ R2 ++ S) ∧ wr.grownBy w' (some g)) := Lib.hid fun h1 h2 => by
        have hf : FlAt wr B g cap ((P ++ L1) ++ L2 ++ R1 ++ (R2 ++ S)) := by have := HFL.out; rw [eL, eR] at this; simpa using this
        have := rotate_any wr B g cap (P ++ L1) L2 R1 (R2 ++ S) j m e N (.func (.func 95) #[] #[]) hf (by simp; omega) (by simp; have := HA.out; omega) (by omega) (by omega) (by omega) (by omega) hl
        refine this.mono fun ed w' hh => ⟨hh.1, ?_, hh.2.2⟩
        have h3 := hh.2.1
        simpa using h3
      have NOR : Hid (¬ (j < m ∧ j < mid) → FlAt wr B g cap (P ++ L1 ++ R1 ++ L2 ++ R2 ++ S)) := Lib.hid fun hx => by
        have hf := HFL.out
        rw [eL, eR] at hf
        by_cases h1 : j < m
        · have : R1 = [] := hz1 _ (by omega)
          rw [this] at hf ⊢; simpa using hf
        · have : L2 = [] := hz1 _ (by omega)
          rw [this] at hf ⊢; simpa using hf
      have LEF : Hid (∀ w', FlAt w' B g cap (P ++ L1 ++ R1 ++ L2 ++ R2 ++ S) → a < j → j < mid → Calls Try.prog 129 #[.slice (some ⟨g, 0, none⟩) N cap, .int .i64 a, .int .i64 j, .int .i64 mid, .func (.func 95) #[] #[]] w' fun ed w2 => ed = .returned (.tuple #[]) ∧ FlAt w2 B g cap (P ++ mrg ltF L1 R1 ++ L2 ++ R2 ++ S) ∧ w'.grownBy w2 (some g)) := Lib.hid fun w' hf h1 h2 => by
        have hnn := HNN.out
        have := HIH.out w' B g cap P L1 R1 (L2 ++ R2 ++ S) a j mid N (by have := HMID.out; have := HM.out; have := HB.out; omega) (by simpa using hf) (by simp; omega) HA.out (by omega) (by omega) (by omega) (by omega) hl s1 s3
        refine this.mono fun ed w2 hh => ⟨hh.1, ?_, hh.2.2⟩
        have h3 := hh.2.1
        simpa using h3
      have NOL : Hid (∀ w', ¬ (a < j ∧ j < mid) → FlAt w' B g cap (P ++ L1 ++ R1 ++ L2 ++ R2 ++ S) → FlAt w' B g cap (P ++ mrg ltF L1 R1 ++ L2 ++ R2 ++ S)) := Lib.hid fun w' hx hf => by
        by_cases h1 : a < j
        · have : R1 = [] := hz1 _ (by omega)
          rw [this] at hf ⊢; rw [mrg_nil]; simpa using hf
        · have : L1 = [] := hz1 _ (by omega)
          rw [this] at hf ⊢; rw [nil_mrg]; simpa using hf
      have RIG : Hid (∀ w', FlAt w' B g cap (P ++ mrg ltF L1 R1 ++ L2 ++ R2 ++ S) → j < m → e < b → Calls Try.prog 129 #[.slice (some ⟨g, 0, none⟩) N cap, .int .i64 mid, .int .i64 e, .int .i64 b, .func (.func 95) #[] #[]] w' fun ed w2 => ed = .returned (.tuple #[]) ∧ FlAt w2 B g cap (P ++ mrg ltF L R ++ S) ∧ w'.grownBy w2 (some g)) := Lib.hid fun w' hf h1 h2 => by
        have hnn := HNN.out
        have := HIH.out w' B g cap (P ++ mrg ltF L1 R1) L2 R2 S mid e b N (by have := HMID.out; have := HM.out; have := HB.out; omega) (by simpa using hf) (by simp [length_mrg]; omega) (by simp [length_mrg]; have := HA.out; omega) (by omega) (by have := HB.out; omega) (by omega) (by have := HB.out; omega) hl s2 s4
        refine this.mono fun ed w2 hh => ⟨hh.1, ?_, hh.2.2⟩
        have h3 := hh.2.1
        rw [HMR.out]
        simpa using h3
      have NOG : Hid (∀ w', ¬ (j < m ∧ e < b) → FlAt w' B g cap (P ++ mrg ltF L1 R1 ++ L2 ++ R2 ++ S) → FlAt w' B g cap (P ++ mrg ltF L R ++ S)) := Lib.hid fun w' hx hf => by
        rw [HMR.out]
        by_cases h1 : j < m
        · have : R2 = [] := hz1 _ (by have := HB.out; omega)
          rw [this] at hf ⊢; rw [mrg_nil]; simpa using hf
        · have : L2 = [] := hz1 _ (by omega)
          rw [this] at hf ⊢; rw [nil_mrg]; simpa using hf
      clear hcut hmr hL1 hL2 hR1 hR2 eL eR n1 n2 n3 n4 s1 s2 s3 s4 hNN hz1
      by_cases hA : j < m <;> by_cases hB : j < mid <;> by_cases hC : a < j <;> by_cases hD : e < b
      · have t1 : (m < e) := by omega
        have t2 : (mid < e) := by omega
        clear he
        go_wp2_with fail
        refine (ROT.out hA hB).mono ?_
        rintro ed w1 ⟨rfl, hf, hg⟩
        have HF1 := Lib.hid hf
        have HG1 := Lib.hid (grown_again HGR.out hg)
        clear hf hg
        go_wp2_with fail
        refine (LEF.out w1 HF1.out hC hB).mono ?_
        rintro ed w2 ⟨rfl, hf, hg⟩
        have HF2 := Lib.hid hf
        have HG2 := Lib.hid (grown_again HG1.out hg)
        clear hf hg
        go_wp2_with fail
        refine (RIG.out w2 HF2.out hA hD).mono ?_
        rintro ed w3 ⟨rfl, hf, hg⟩
        have HF3 := Lib.hid hf
        have HG3 := Lib.hid (grown_again HG2.out hg)
        clear hf hg
        go_wp2
        go_end0
        exact ⟨rfl, HF3.out, HG3.out⟩
      · have t1 : (m < e) := by omega
        have t2 : (mid < e) := by omega
        clear he
        go_wp2_with fail
        refine (ROT.out hA hB).mono ?_
        rintro ed w1 ⟨rfl, hf, hg⟩
        have HF1 := Lib.hid hf
        have HG1 := Lib.hid (grown_again HGR.out hg)
        clear hf hg
        go_wp2_with fail
        refine (LEF.out w1 HF1.out hC hB).mono ?_
        rintro ed w2 ⟨rfl, hf, hg⟩
        have HF2 := Lib.hid hf
        have HG2 := Lib.hid (grown_again HG1.out hg)
        clear hf hg
        have HF3 := Lib.hid (NOG.out w2 (fun hx => by first | exact hA hx.1 | exact hD hx.2) HF2.out)
        go_wp2
        go_end0
        exact ⟨rfl, HF3.out, HG2.out⟩
      · have t1 : (m < e) := by omega
        have t2 : (mid < e) := by omega
        clear he
        go_wp2_with fail
        refine (ROT.out hA hB).mono ?_
        rintro ed w1 ⟨rfl, hf, hg⟩
        have HF1 := Lib.hid hf
        have HG1 := Lib.hid (grown_again HGR.out hg)
        clear hf hg
        have HF2 := Lib.hid (NOL.out w1 (fun hx => by first | exact hC hx.1 | exact hB hx.2) HF1.out)
        go_wp2_with fail
        refine (RIG.out w1 HF2.out hA hD).mono ?_
        rintro ed w3 ⟨rfl, hf, hg⟩
        have HF3 := Lib.hid hf
        have HG3 := Lib.hid (grown_again HG1.out hg)
        clear hf hg
        go_wp2
        go_end0
        exact ⟨rfl, HF3.out, HG3.out⟩
      · have t1 : (m < e) := by omega
        have t2 : (mid < e) := by omega
        clear he
        go_wp2_with fail
        refine (ROT.out hA hB).mono ?_
        rintro ed w1 ⟨rfl, hf, hg⟩
        have HF1 := Lib.hid hf
        have HG1 := Lib.hid (grown_again HGR.out hg)
        clear hf hg
        have HF2 := Lib.hid (NOL.out w1 (fun hx => by first | exact hC hx.1 | exact hB hx.2) HF1.out)
        have HF3 := Lib.hid (NOG.out w1 (fun hx => by first | exact hA hx.1 | exact hD hx.2) HF2.out)
        go_wp2
        go_end0
        exact ⟨rfl, HF3.out, HG1.out⟩
      · have t1 : ¬ (m < e) := by omega
        have t2 : (mid < e) := by omega
        clear he
        have HF1 := Lib.hid (NOR.out (fun hx => by first | exact hA hx.1 | exact hB hx.2))
        have HF2 := Lib.hid (NOL.out wr (fun hx => by first | exact hC hx.1 | exact hB hx.2) HF1.out)
        go_wp2_with fail
        refine (RIG.out wr HF2.out hA hD).mono ?_
        rintro ed w3 ⟨rfl, hf, hg⟩
        have HF3 := Lib.hid hf
        have HG3 := Lib.hid (grown_again HGR.out hg)
        clear hf hg
        go_wp2
        go_end0
        exact ⟨rfl, HF3.out, HG3.out⟩
      · have t1 : ¬ (m < e) := by omega
        have t2 : (mid < e) := by omega
        clear he
        have HF1 := Lib.hid (NOR.out (fun hx => by first | exact hA hx.1 | exact hB hx.2))
        have HF2 := Lib.hid (NOL.out wr (fun hx => by first | exact hC hx.1 | exact hB hx.2) HF1.out)
        have HF3 := Lib.hid (NOG.out wr (fun hx => by first | exact hA hx.1 | exact hD hx.2) HF2.out)
        go_wp2
        go_end0
        exact ⟨rfl, HF3.out, HGR.out⟩
      · have t1 : ¬ (m < e) := by omega
        have t2 : (mid < e) := by omega
        clear he
        have HF1 := Lib.hid (NOR.out (fun hx => by first | exact hA hx.1 | exact hB hx.2))
        have HF2 := Lib.hid (NOL.out wr (fun hx => by first | exact hC hx.1 | exact hB hx.2) HF1.out)
        go_wp2_with fail
        refine (RIG.out wr HF2.out hA hD).mono ?_
        rintro ed w3 ⟨rfl, hf, hg⟩
        have HF3 := Lib.hid hf
        have HG3 := Lib.hid (grown_again HGR.out hg)
        clear hf hg
        go_wp2
        go_end0
        exact ⟨rfl, HF3.out, HG3.out⟩
      · have t1 : ¬ (m < e) := by omega
        have t2 : (mid < e) := by omega
        clear he
        have HF1 := Lib.hid (NOR.out (fun hx => by first | exact hA hx.1 | exact hB hx.2))
        have HF2 := Lib.hid (NOL.out wr (fun hx => by first | exact hC hx.1 | exact hB hx.2) HF1.out)
        have HF3 := Lib.hid (NOG.out wr (fun hx => by first | exact hA hx.1 | exact hD hx.2) HF2.out)
        go_wp2
        go_end0
        exact ⟨rfl, HF3.out, HGR.out⟩
      · have t1 : (m < e) := by omega
        have t2 : ¬ (mid < e) := by omega
        clear he
        have HF1 := Lib.hid (NOR.out (fun hx => by first | exact hA hx.1 | exact hB hx.2))
        go_wp2_with fail
        refine (LEF.out wr HF1.out hC hB).mono ?_
        rintro ed w2 ⟨rfl, hf, hg⟩
        have HF2 := Lib.hid hf
        have HG2 := Lib.hid (grown_again HGR.out hg)
        clear hf hg
        have HF3 := Lib.hid (NOG.out w2 (fun hx => by first | exact hA hx.1 | exact hD hx.2) HF2.out)
        go_wp2
        go_end0
        exact ⟨rfl, HF3.out, HG2.out⟩
      · have t1 : (m < e) := by omega
        have t2 : ¬ (mid < e) := by omega
        clear he
        have HF1 := Lib.hid (NOR.out (fun hx => by first | exact hA hx.1 | exact hB hx.2))
        go_wp2_with fail
        refine (LEF.out wr HF1.out hC hB).mono ?_
        rintro ed w2 ⟨rfl, hf, hg⟩
        have HF2 := Lib.hid hf
        have HG2 := Lib.hid (grown_again HGR.out hg)
        clear hf hg
        have HF3 := Lib.hid (NOG.out w2 (fun hx => by first | exact hA hx.1 | exact hD hx.2) HF2.out)
        go_wp2
        go_end0
        exact ⟨rfl, HF3.out, HG2.out⟩
      · have t1 : (m < e) := by omega
        have t2 : ¬ (mid < e) := by omega
        clear he
        have HF1 := Lib.hid (NOR.out (fun hx => by first | exact hA hx.1 | exact hB hx.2))
        have HF2 := Lib.hid (NOL.out wr (fun hx => by first | exact hC hx.1 | exact hB hx.2) HF1.out)
        have HF3 := Lib.hid (NOG.out wr (fun hx => by first | exact hA hx.1 | exact hD hx.2) HF2.out)
        go_wp2
        go_end0
        exact ⟨rfl, HF3.out, HGR.out⟩
      · have t1 : (m < e) := by omega
        have t2 : ¬ (mid < e) := by omega
        clear he
        have HF1 := Lib.hid (NOR.out (fun hx => by first | exact hA hx.1 | exact hB hx.2))
        have HF2 := Lib.hid (NOL.out wr (fun hx => by first | exact hC hx.1 | exact hB hx.2) HF1.out)
        have HF3 := Lib.hid (NOG.out wr (fun hx => by first | exact hA hx.1 | exact hD hx.2) HF2.out)
        go_wp2
        go_end0
        exact ⟨rfl, HF3.out, HGR.out⟩
      · have t1 : ¬ (m < e) := by omega
        have t2 : ¬ (mid < e) := by omega
        clear he
        have HF1 := Lib.hid (NOR.out (fun hx => by first | exact hA hx.1 | exact hB hx.2))
        have HF2 := Lib.hid (NOL.out wr (fun hx => by first | exact hC hx.1 | exact hB hx.2) HF1.out)
        have HF3 := Lib.hid (NOG.out wr (fun hx => by first | exact hA hx.1 | exact hD hx.2) HF2.out)
        go_wp2
        go_end0
        exact ⟨rfl, HF3.out, HGR.out⟩
      · have t1 : ¬ (m < e) := by omega
        have t2 : ¬ (mid < e) := by omega
        clear he
        have HF1 := Lib.hid (NOR.out (fun hx => by first | exact hA hx.1 | exact hB hx.2))
        have HF2 := Lib.hid (NOL.out wr (fun hx => by first | exact hC hx.1 | exact hB hx.2) HF1.out)
        have HF3 := Lib.hid (NOG.out wr (fun hx => by first | exact hA hx.1 | exact hD hx.2) HF2.out)
        go_wp2
        go_end0
        exact ⟨rfl, HF3.out, HGR.out⟩
      · have t1 : ¬ (m < e) := by omega
        have t2 : ¬ (mid < e) := by omega
        clear he
        have HF1 := Lib.hid (NOR.out (fun hx => by first | exact hA hx.1 | exact hB hx.2))
        have HF2 := Lib.hid (NOL.out wr (fun hx => by first | exact hC hx.1 | exact hB hx.2) HF1.out)
        have HF3 := Lib.hid (NOG.out wr (fun hx => by first | exact hA hx.1 | exact hD hx.2) HF2.out)
        go_wp2
        go_end0
        exact ⟨rfl, HF3.out, HGR.out⟩
      · have t1 : ¬ (m < e) := by omega
        have t2 : ¬ (mid < e) := by omega
        clear he
        have HF1 := Lib.hid (NOR.out (fun hx => by first | exact hA hx.1 | exact hB hx.2))
        have HF2 := Lib.hid (NOL.out wr (fun hx => by first | exact hC hx.1 | exact hB hx.2) HF1.out)
        have HF3 := Lib.hid (NOG.out wr (fun hx => by first | exact hA hx.1 | exact hD hx.2) HF2.out)
        go_wp2
        go_end0
        exact ⟨rfl, HF3.out, HGR.out⟩
end Go.Proofs.Ytmjijmkdeblefaa

/- The stable sort of fields: whatever their number. -/
namespace Go.Proofs.Ytmjijmkdeblefaa
open Go.RowKit LM Go.Shelf Go.Sort
set_option linter.unusedVariables false

theorem symOk : ∀ n, SymOk n := by
  intro n
  induction n with
  | zero => intro W B g cap P L R S a m b N hn h hN ha hm hb hl1; omega
  | succ n ih =>
    intro W B g cap P L R S a m b N hn h hN ha hm hb hl1 hr1 hl hL hR
    by_cases h1 : L.length = 1
    · obtain ⟨x, rfl⟩ := List.length_eq_one_iff.1 h1
      exact symMerge_one W B g cap P R S x a m b N h hN ha (by simpa using hm) hb hl hR ordF
    · by_cases h2 : R.length = 1
      · obtain ⟨y, rfl⟩ := List.length_eq_one_iff.1 h2
        exact symMerge_last W B g cap P L S y a m b N h hN ha hm (by simpa using hb) hl hL h1 ordF
      · by_cases h3 : (a + b) / 2 < m
        · exact symMerge_big n ih W B g cap P L R S a m b N _ hn h hN ha hm hb (by omega) (by omega) hl hL hR ordF rfl h3
        · exact symMerge_low n ih W B g cap P L R S a m b N _ hn h hN ha hm hb (by omega) (by omega) hl hL hR ordF rfl (by omega)

/-- A part sorted by insertion. -/
theorem ins_part (W : World) (B g cap : Nat) (P X S : List Fld) (a b N : Nat) (h : FlAt W B g cap (P ++ X ++ S)) (hN : (P ++ X ++ S).length = N) (ha : a = P.length) (hb : b = a + X.length) (hl : N ≤ 1099511627776) :
    Calls Try.prog 128 #[.slice (some ⟨g, 0, none⟩) N cap, .int .i64 a, .int .i64 b, .func (.func 95) #[] #[]] W fun e w' => e = .returned (.tuple #[]) ∧ FlAt w' B g cap (P ++ srt ltF X ++ S) ∧ W.grownBy w' (some g) := by
  obtain ⟨fs, hfs⟩ : ∃ fs, P ++ X ++ S = fs := ⟨_, rfl⟩
  have hlist := insSort_list ordF P X S ha hb
  have hbl : b ≤ N := by rw [← hN]; simp; omega
  rw [hfs] at h hN hlist
  subst hN
  have hH : HoldsK Fld.enc 5 W g 0 fs.toArray := by
    obtain ⟨cur, _, hg, hc, hm, hs, ht⟩ := h.parts
    intro j hj
    rw [flat_fld] at hj ⊢
    have hj' : j < (fldCells fs).length := by simpa using hj
    have e1 : cur.toList[j]? = (fldCells fs)[j]? := by rw [← ht, List.getElem?_take_of_lt (by rw [length_fldCells] at hj'; exact hj')]
    refine ⟨?_, by simp [World.frozen?, hg]⟩
    simp only [World.cell?, hg]
    rw [List.getElem?_eq_getElem hj'] at e1
    simpa [hj'] using e1
  have hc := AnyQ.insertionSortCmpFunc srtLays 5 Try.isAgg40 Try.sizeOf40 Fld.enc (fun _ => rfl) (fun x v hv => by simp [Fld.enc] at hv; rcases hv with rfl | rfl | rfl | rfl | rfl <;> rfl) fldCmp 95 #[] g 0 cap a b fs.toArray W
    (enters_of Try.func95 (by kernel_rfl) rfl) (cmp_lays _ _ _ _) hH h.lt (by omega) (by simpa using hbl) (by simp; omega)
  refine (hc.mono fun e w' hh => ?_)
  obtain ⟨rfl, m, os, rfl⟩ := hh
  have hsz : (Sort.insertionSort (ltOf fldCmp) fs.toArray a b).size = fs.length := by
    unfold Sort.insertionSort
    rw [size_insOuter _ _ _ _ _ _ (Nat.le_refl _)]; simp
  obtain ⟨r1, r2⟩ := sorted_world (m := m) (os := os) h hsz
  refine ⟨rfl, ?_, r2⟩
  have hl2 : (P ++ srt ltF X ++ S).length = fs.length := by rw [← hfs]; simp [length_srt]
  unfold FlAt
  rw [hl2, ← hlist]
  exact r1

set_option maxRecDepth 100000 in
set_option maxHeartbeats 4000000 in
theorem stable_many (W : World) (B g cap : Nat) (fs : List Fld) (N : Nat) (h : FlAt W B g cap fs) (hN : fs.length = N) (hl : N ≤ 1099511627776) :
    Calls Try.prog 115 #[.slice (some ⟨g, 0, none⟩) N cap, .int .i64 N, .func (.func 95) #[] #[]] W fun e w' => e = .returned (.tuple #[]) ∧ FlAt w' B g cap (srt ltF fs) ∧ W.grownBy w' (some g) := by
  have HF := Lib.hid h
  have HN := Lib.hid hN
  clear h hN
  go_enter Try.func115, Try.ntmps115
  go_wp2
  go_loopw [7, 8] (fun va vb wr => ∃ (a : Nat) (PA : List Fld), va = .int .i64 a ∧ vb = .int .i64 (a + 20 : Nat) ∧ a ≤ N ∧ Hid (PA.length = a ∧ PA ++ blk ltF 20 (fs.drop a) = blk ltF 20 fs) ∧ FlAt wr B g cap (PA ++ fs.drop a) ∧ W.grownBy wr (some g)) (fun va _ _ => N - (intOf va).toNat)
  case atStart => exact ⟨0, [], rfl, rfl, Nat.zero_le _, Lib.hid ⟨rfl, by simp⟩, by simpa using HF.out, ⟨rfl, rfl, rfl, Nat.le_refl _, fun _ _ _ => rfl⟩⟩
  case round =>
    obtain ⟨a, PA, rfl, rfl, haN, HPA, hfl, hgr⟩ := hrel
    have HFL := Lib.hid hfl
    have HGR := Lib.hid hgr
    clear hfl hgr
    have ec : ((a + 20 : Nat) : Int) = (a : Int) + 20 := by omega
    by_cases hb : a + 20 ≤ N
    · have hbz : (a : Int) + 20 ≤ (N : Int) := by omega
      have HC : Hid (Calls Try.prog 128 #[.slice (some ⟨g, 0, none⟩) N cap, .int .i64 a, .int .i64 ((a : Int) + 20), .func (.func 95) #[] #[]] wr fun e w' => e = .returned (.tuple #[]) ∧ FlAt w' B g cap (PA ++ srt ltF ((fs.drop a).take 20) ++ fs.drop (a + 20)) ∧ wr.grownBy w' (some g)) := Lib.hid (by
        have hlen : ((fs.drop a).take 20).length = 20 := by have := HN.out; simp; omega
        have h1 := ins_part wr B g cap PA ((fs.drop a).take 20) (fs.drop (a + 20)) a (a + 20) N (by
          have := HFL.out
          rw [← List.take_append_drop 20 (fs.drop a), List.drop_drop] at this
          simpa using this) (by have := HPA.out.1; have := HN.out; simp; omega) HPA.out.1.symm (by rw [hlen]) hl
        rwa [ec] at h1)
      have HST : Hid ((PA ++ srt ltF ((fs.drop a).take 20)).length = a + 20 ∧ (PA ++ srt ltF ((fs.drop a).take 20)) ++ blk ltF 20 (fs.drop (a + 20)) = blk ltF 20 fs) := Lib.hid (by
        have := HN.out
        refine ⟨by rw [List.length_append, length_srt, HPA.out.1]; simp; omega, ?_⟩
        rw [← HPA.out.2, blk_app (l := fs.drop a) (by omega) (by simp; omega), List.drop_drop]; simp)
      go_wp2_with (go_at_call 128; refine HC.out.mono ?_; rintro e w' ⟨rfl, hf, hg⟩; have HF2 := Lib.hid hf; have HG2 := Lib.hid hg; clear hf hg)
      go_roundw
      case rel => exact ⟨a + 20, _, by go_num, by go_num, hb, HST, HF2.out, grown_again HGR.out HG2.out⟩
      case measure => simp [intOf]; omega
    · have hbz : ¬ (a : Int) + 20 ≤ (N : Int) := by omega
      have HC : Hid (Calls Try.prog 128 #[.slice (some ⟨g, 0, none⟩) N cap, .int .i64 a, .int .i64 N, .func (.func 95) #[] #[]] wr fun e w' => e = .returned (.tuple #[]) ∧ FlAt w' B g cap (blk ltF 20 fs) ∧ wr.grownBy w' (some g)) := Lib.hid (by
        have h1 := ins_part wr B g cap PA (fs.drop a) [] a N N (by simpa using HFL.out) (by have := HPA.out.1; have := HN.out; simp; omega) HPA.out.1.symm (by have := HN.out; simp; omega) hl
        rw [← HPA.out.2, blk_end (by have := HN.out; simp; omega)]
        simpa using h1)
      go_wp2_with (go_at_call 128; refine HC.out.mono ?_; rintro e w' ⟨rfl, hf, hg⟩; have HF2 := Lib.hid hf; have HG2 := Lib.hid (grown_again HGR.out hg); clear hf hg)
      clear HC ec hbz hb HFL HGR
      go_loopw [6] (fun vs wx => ∃ s : Nat, vs = .int .i64 s ∧ 20 ≤ s ∧ s ≤ 2 * N + 20 ∧ FlAt wx B g cap (blk ltF s fs) ∧ W.grownBy wx (some g)) (fun vs _ => N - (intOf vs).toNat)
      case atStart => exact ⟨20, rfl, Nat.le_refl _, by omega, HF2.out, HG2.out⟩
      case round =>
        obtain ⟨s, rfl, hs20, hsN, hfl, hgr⟩ := hrel
        have HFL := Lib.hid hfl
        have HGR := Lib.hid hgr
        clear hfl hgr
        by_cases hsn : s < N
        · have ew : IntKind.i64.wrap (2 * (s : Int)) = 2 * (s : Int) := IntWalk.i64_in _ (by omega)
          have ew2 : IntKind.i64.wrap ((s : Int) * 2) = (s : Int) * 2 := IntWalk.i64_in _ (by omega)
          go_wp2
          go_loopw [7, 8] (fun va vb wy => ∃ (a : Nat) (PA : List Fld), va = .int .i64 a ∧ vb = .int .i64 ((a : Int) + 2 * (s : Int)) ∧ a ≤ N ∧ Hid (PA.length = a ∧ PA ++ blk ltF (2 * s) (fs.drop a) = blk ltF (2 * s) fs) ∧ FlAt wy B g cap (PA ++ blk ltF s (fs.drop a)) ∧ W.grownBy wy (some g)) (fun va _ _ => N - (intOf va).toNat)
          case atStart => exact ⟨0, [], rfl, by simp, Nat.zero_le _, Lib.hid ⟨rfl, by simp⟩, by simpa using HFL.out, HGR.out⟩
          case round =>
            obtain ⟨a, PA, rfl, rfl, haN, HPA, hfl, hgr⟩ := hrel
            have HFA := Lib.hid hfl
            have HGA := Lib.hid hgr
            clear hfl hgr
            by_cases hb : a + 2 * s ≤ N
            · have hbz : (a : Int) + 2 * (s : Int) ≤ (N : Int) := by omega
              have hd : decide ((a : Int) + 2 * (s : Int) ≤ (N : Int)) = true := decide_eq_true hbz
              have hX : (fs.drop a).length = N - a := by have := HN.out; simp; omega
              have hcut : blk ltF s (fs.drop a) = srt ltF ((fs.drop a).take s) ++ srt ltF ((fs.drop (a + s)).take s) ++ blk ltF s (fs.drop (a + 2 * s)) := by
                rw [blk_app (l := fs.drop a) (by omega) (by omega), List.drop_drop, blk_app (l := fs.drop (a + s)) (by omega) (by simp; have := HN.out; omega), List.drop_drop, show a + s + s = a + 2 * s by omega, List.append_assoc]
              have hmg : mrg ltF (srt ltF ((fs.drop a).take s)) (srt ltF ((fs.drop (a + s)).take s)) = srt ltF ((fs.drop a).take (2 * s)) := by
                rw [← srt_append ordF, show 2 * s = s + s by omega, List.take_add, List.drop_drop]
              have HC : Hid (Calls Try.prog 129 #[.slice (some ⟨g, 0, none⟩) N cap, .int .i64 a, .int .i64 ((a : Int) + (s : Int)), .int .i64 ((a : Int) + 2 * (s : Int)), .func (.func 95) #[] #[]] wr fun e w' => e = .returned (.tuple #[]) ∧ FlAt w' B g cap ((PA ++ srt ltF ((fs.drop a).take (2 * s))) ++ blk ltF s (fs.drop (a + 2 * s))) ∧ wr.grownBy w' (some g)) := Lib.hid (by
                have hnn := HN.out
                have hp := HPA.out.1
                have hf := HFA.out
                rw [hcut] at hf
                have h1 := symOk _ wr B g cap PA (srt ltF ((fs.drop a).take s)) (srt ltF ((fs.drop (a + s)).take s)) (blk ltF s (fs.drop (a + 2 * s))) a (a + s) (a + 2 * s) N (Nat.le_refl _) (by simpa using hf)
                  (by simp [length_srt, length_blk _ _ (Nat.le_refl _)]; omega) hp.symm (by simp [length_srt]; omega) (by simp [length_srt]; omega) (by simp [length_srt]; omega) (by simp [length_srt]; omega) hl (ris_srt ordF _) (ris_srt ordF _)
                rw [hmg] at h1
                simpa using h1)
              have HST : Hid ((PA ++ srt ltF ((fs.drop a).take (2 * s))).length = a + 2 * s ∧ (PA ++ srt ltF ((fs.drop a).take (2 * s))) ++ blk ltF (2 * s) (fs.drop (a + 2 * s)) = blk ltF (2 * s) fs) := Lib.hid (by
                refine ⟨by rw [List.length_append, length_srt, HPA.out.1, List.length_take, hX]; omega, ?_⟩
                rw [← HPA.out.2, blk_app (l := fs.drop a) (by omega) (by omega), List.drop_drop, List.append_assoc])
              clear hcut hmg hX
              go_wp2_with (go_at_call 129; refine HC.out.mono ?_; rintro e w' ⟨rfl, hf, hg⟩; have HF2 := Lib.hid hf; have HG2 := Lib.hid hg; clear hf hg)
              go_roundw
              case rel => exact ⟨a + 2 * s, _, by first | rfl | (congr 1; done) | (congr 1; omega), by first | rfl | (congr 1; done) | (congr 1; omega), hb, HST, HF2.out, grown_again HGA.out HG2.out⟩
              case measure => simp [intOf]; omega
            · have hbz : ¬ (a : Int) + 2 * (s : Int) ≤ (N : Int) := by omega
              have hd : decide ((a : Int) + 2 * (s : Int) ≤ (N : Int)) = false := decide_eq_false hbz
              have hX : (fs.drop a).length = N - a := by have := HN.out; simp; omega
              by_cases hm : a + s < N
              · have hmz : (a : Int) + (s : Int) < (N : Int) := by omega
                have HC : Hid (Calls Try.prog 129 #[.slice (some ⟨g, 0, none⟩) N cap, .int .i64 a, .int .i64 ((a : Int) + (s : Int)), .int .i64 N, .func (.func 95) #[] #[]] wr fun e w' => e = .returned (.tuple #[]) ∧ FlAt w' B g cap (blk ltF (2 * s) fs) ∧ wr.grownBy w' (some g)) := Lib.hid (by
                  have hnn := HN.out
                  have hp := HPA.out.1
                  have hf := HFA.out
                  rw [blk_app (l := fs.drop a) (by omega) (by omega), List.drop_drop, blk_end (l := fs.drop (a + s)) (by simp; omega)] at hf
                  have h1 := symOk _ wr B g cap PA (srt ltF ((fs.drop a).take s)) (srt ltF (fs.drop (a + s))) [] a (a + s) N N (Nat.le_refl _) (by simpa using hf)
                    (by simp [length_srt]; omega) hp.symm (by simp [length_srt]; omega) (by simp [length_srt]; omega) (by simp [length_srt]; omega) (by simp [length_srt]; omega) hl (ris_srt ordF _) (ris_srt ordF _)
                  rw [← srt_append ordF, show fs.drop (a + s) = (fs.drop a).drop s by rw [List.drop_drop], List.take_append_drop] at h1
                  rw [← HPA.out.2, blk_end (l := fs.drop a) (by omega)]
                  simpa using h1)
                clear hX
                go_wp2_with (go_at_call 129; refine HC.out.mono ?_; rintro e w' ⟨rfl, hf, hg⟩; have HF2 := Lib.hid hf; have HG2 := Lib.hid hg; clear hf hg)
                go_roundw
                case rel => exact ⟨2 * s, by congr 1; omega, by omega, by omega, HF2.out, grown_again HGA.out HG2.out⟩
                case measure => simp [intOf]; omega
              · have hmz : ¬ (a : Int) + (s : Int) < (N : Int) := by omega
                have HF2 : Hid (FlAt wr B g cap (blk ltF (2 * s) fs)) := Lib.hid (by
                  have hf := HFA.out
                  rw [blk_end (l := fs.drop a) (by omega)] at hf
                  rw [← HPA.out.2, blk_end (l := fs.drop a) (by omega)]
                  exact hf)
                clear hX
                go_wp2
                go_roundw
                case rel => exact ⟨2 * s, by congr 1; omega, by omega, by omega, HF2.out, HGA.out⟩
                case measure => simp [intOf]; omega
        · go_wp2
          go_end0
          refine ⟨rfl, ?_, HGR.out⟩
          have hf := HFL.out
          rwa [blk_end (by have := HN.out; omega)] at hf

theorem insF_srt (fs : List Fld) : insF fs = srt ltF fs := by
  have := insSort_list ordF [] fs [] (a := 0) (b := fs.length) rfl (by simp)
  have e : ltF = Go.Proofs.ltOf fldCmp := rfl
  rw [e] at this ⊢
  simpa [insF] using this

set_option maxRecDepth 100000 in
theorem sort_any (W : World) (B : Nat) (v : Value) (fs : List Fld) (h : W.ownsRow B 40 5 v fs.length (fldCells fs)) (hl : fs.length ≤ 1099511627776) :
    Calls Try.prog 94 #[v, .func (.func 95) #[] #[]] W (SrtPost B v fs W) := by
  by_cases h20 : fs.length < 20
  · exact sort_few W B v fs h h20
  · obtain ⟨g, cap, cur, rfl, _⟩ := own_some h (by omega)
    have HI := Lib.hid (stable_many W B g cap fs fs.length h rfl hl)
    clear h
    generalize hn : fs.length = n at *
    have HN := Lib.hid hn
    clear hn
    go_enter Try.func94, Try.ntmps94
    go_wp2_with (go_at_call 115; refine HI.out.mono ?_; rintro e w' ⟨rfl, hf, hg⟩; have HF := Lib.hid hf; have HG := Lib.hid hg; clear hf hg)
    go_end0
    refine ⟨rfl, ?_, HG.out⟩
    have hf := HF.out
    unfold FlAt at hf
    rw [length_srt] at hf
    rw [insF_srt, HN.out]
    rw [HN.out] at hf
    exact hf
end Go.Proofs.Ytmjijmkdeblefaa
