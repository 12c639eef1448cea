/- A list of fields in memory, field by field. -/
import Derived.Test.YtaaohaihajccgaaKdO
namespace Go.Proofs.Ytaaohaihajccgaa
open Go.RowKit LM
set_option linter.unusedVariables false

theorem fldCells_get (l : List Fld) : ∀ (i c : Nat), c < 5 → (fldCells l)[i * 5 + c]? = l[i]?.bind fun f => f.enc[c]? := by
  induction l with
  | nil => intro i c hc; simp [fldCells]
  | cons f l ih =>
    intro i c hc
    have hl : f.enc.length = 5 := rfl
    simp only [fldCells, List.flatMap_cons] at ih ⊢
    cases i with
    | zero => rw [List.getElem?_append_left (by rw [hl]; omega)]; simp
    | succ i =>
      rw [List.getElem?_append_right (by rw [hl]; omega), hl, show (i + 1) * 5 + c - 5 = i * 5 + c by omega, ih i c hc]
      simp
/-- A field is laid at o. -/
def World.set5 (W : World) (g o : Nat) (f : Fld) : World :=
  ((((W.setCell ⟨g, o, none⟩ (.string f.name)).setCell ⟨g, o + 1, none⟩ (.int .u8 f.h.op)).setCell ⟨g, o + 2, none⟩ (.string f.h.name)).setCell ⟨g, o + 3, none⟩ (.int .i64 f.h.n)).setCell ⟨g, o + 4, none⟩ (.slice f.q f.k.len f.cap)
theorem grown_again {A B C : World} {r : Nat} (a : A.grownBy B (some r)) (b : B.grownBy C (some r)) : A.grownBy C (some r) :=
  ⟨b.os.trans a.os, b.tape.trans a.tape, b.output.trans a.output, Nat.le_trans a.size b.size, fun k hk hne => (b.block k (Nat.lt_of_lt_of_le hk a.size) hne).trans (a.block k hk hne)⟩
theorem grown_set (W : World) (b i : Nat) (v : Value) : W.grownBy (W.setCell ⟨b, i, none⟩ v) (some b) :=
  ⟨rfl, rfl, rfl, by simp, fun k _ hk => Below.heap_setCell _ _ _ k (fun e => hk (by rw [e]))⟩
theorem set5_grown (W : World) (g o : Nat) (f : Fld) : W.grownBy (World.set5 W g o f) (some g) := by
  unfold World.set5
  exact grown_again (grown_again (grown_again (grown_again (grown_set _ _ _ _) (grown_set _ _ _ _)) (grown_set _ _ _ _)) (grown_set _ _ _ _)) (grown_set _ _ _ _)
theorem set5_row {W : World} {g : Nat} {cs : Array Value} {t : TypeId} (h : W.heap[g]? = some (.cells cs t (0, 0))) (o : Nat) (f : Fld) :
    (World.set5 W g o f).heap[g]? = some (.cells (((((cs.setIfInBounds o (.string f.name)).setIfInBounds (o + 1) (.int .u8 f.h.op)).setIfInBounds (o + 2) (.string f.h.name)).setIfInBounds (o + 3) (.int .i64 f.h.n)).setIfInBounds (o + 4) (.slice f.q f.k.len f.cap)) t (0, 0)) :=
  row_set (row_set (row_set (row_set (row_set h o _) _ _) _ _) _ _) _ _

/-- The slice's array reads as the fields fs. -/
def FlAt (W : World) (B g cap : Nat) (fs : List Fld) : Prop := W.ownsRow B 37 5 (.slice (some ⟨g, 0, none⟩) fs.length cap) fs.length (fldCells fs)
theorem FlAt.parts {W : World} {B g cap : Nat} {fs : List Fld} (h : FlAt W B g cap fs) : ∃ cur, B ≤ g ∧ W.heap[g]? = some (.cells cur 37 (0, 0)) ∧ fs.length ≤ cap ∧ cap ≤ maxLen ∧ cur.size = cap * 5 ∧ cur.toList.take (fs.length * 5) = fldCells fs := by
  rcases h.2 with ⟨h0, _⟩ | ⟨g', cap', cur, e, hb, hg, hc, hm, hs, ht⟩
  · cases h0
  · cases e; exact ⟨cur, hb, hg, hc, hm, hs, ht⟩
theorem FlAt.lt {W : World} {B g cap : Nat} {fs : List Fld} (h : FlAt W B g cap fs) : g < W.heap.size := by
  obtain ⟨cur, _, hg, _⟩ := h.parts; exact (Array.getElem?_eq_some_iff.1 hg).1
theorem FlAt.frozen {W : World} {B g cap : Nat} {fs : List Fld} (h : FlAt W B g cap fs) (o : Nat) : W.frozen? ⟨g, o, none⟩ = false := by
  obtain ⟨cur, _, hg, _⟩ := h.parts; simp [World.frozen?, hg]
theorem FlAt.cell {W : World} {B g cap : Nat} {fs : List Fld} (h : FlAt W B g cap fs) {i : Nat} (hi : i < fs.length) {c : Nat} (hc : c < 5) : W.cell? ⟨g, i * 5 + c, none⟩ = fs[i].enc[c]? := by
  obtain ⟨cur, _, hg, _, _, _, ht⟩ := h.parts
  have e1 := fldCells_get fs i c hc
  rw [← ht, List.getElem?_take, if_pos (by have := Nat.mul_le_mul_right 5 (show i + 1 ≤ fs.length from hi); omega)] at e1
  simp only [World.cell?, hg]
  rw [List.getElem?_eq_getElem hi] at e1
  simpa using e1
theorem FlAt.cells {W : World} {B g cap : Nat} {fs : List Fld} (h : FlAt W B g cap fs) {i : Nat} (hi : i < fs.length) :
    W.cell? ⟨g, i * 5, none⟩ = some (.string fs[i].name) ∧ W.cell? ⟨g, i * 5 + 1, none⟩ = some (.int .u8 fs[i].h.op) ∧ W.cell? ⟨g, i * 5 + 2, none⟩ = some (.string fs[i].h.name) ∧ W.cell? ⟨g, i * 5 + 3, none⟩ = some (.int .i64 fs[i].h.n) ∧ W.cell? ⟨g, i * 5 + 4, none⟩ = some (.slice fs[i].q fs[i].k.len fs[i].cap) :=
  ⟨h.cell hi (c := 0) (by omega), h.cell hi (c := 1) (by omega), h.cell hi (c := 2) (by omega), h.cell hi (c := 3) (by omega), h.cell hi (c := 4) (by omega)⟩
theorem FlAt.kept {W W' : World} {B g cap : Nat} {fs : List Fld} (h : FlAt W B g cap fs) (hb : Below W.heap.size W W') : FlAt W' B g cap fs :=
  World.ownsRow.kept h (row := none) ⟨hb.os, hb.tape, hb.output, hb.size, fun k hk _ => hb.block k hk⟩ (.inr (by simp [Value.ownBlock]))

theorem get_set5 {cs : Array Value} {o t : Nat} {v0 v1 v2 v3 v4 : Value} (ho : o + 4 < cs.size) :
    (((((cs.setIfInBounds o v0).setIfInBounds (o + 1) v1).setIfInBounds (o + 2) v2).setIfInBounds (o + 3) v3).setIfInBounds (o + 4) v4)[t]? =
      if o ≤ t ∧ t < o + 5 then [v0, v1, v2, v3, v4][t - o]? else cs[t]? := by
  simp only [Array.getElem?_setIfInBounds, Array.size_setIfInBounds]
  by_cases h : o ≤ t ∧ t < o + 5
  · rw [if_pos h]
    obtain ⟨c, rfl⟩ : ∃ c, t = o + c := ⟨t - o, by omega⟩
    have hc : c = 0 ∨ c = 1 ∨ c = 2 ∨ c = 3 ∨ c = 4 := by omega
    rcases hc with rfl | rfl | rfl | rfl | rfl
    · rw [if_neg (by omega), if_neg (by omega), if_neg (by omega), if_neg (by omega), if_pos (by omega), if_pos (by omega)]; simp
    · rw [if_neg (by omega), if_neg (by omega), if_neg (by omega), if_pos (by omega), if_pos (by omega)]; simp
    · rw [if_neg (by omega), if_neg (by omega), if_pos (by omega), if_pos (by omega)]; simp
    · rw [if_neg (by omega), if_pos (by omega), if_pos (by omega)]; simp
    · rw [if_pos (by omega), if_pos (by omega)]; simp
  · rw [if_neg h, if_neg (by omega), if_neg (by omega), if_neg (by omega), if_neg (by omega), if_neg (by omega)]

theorem FlAt.set {W : World} {B g cap : Nat} {fs : List Fld} (h : FlAt W B g cap fs) {i : Nat} (hi : i < fs.length) (f : Fld) : FlAt (World.set5 W g (i * 5) f) B g cap (fs.set i f) := by
  obtain ⟨cur, hb, hg, hc, hm, hs, ht⟩ := h.parts
  have hi5 : i * 5 + 5 ≤ fs.length * 5 := by have := Nat.mul_le_mul_right 5 (show i + 1 ≤ fs.length from hi); omega
  have hc5 : fs.length * 5 ≤ cap * 5 := Nat.mul_le_mul_right 5 hc
  unfold FlAt
  rw [List.length_set]
  refine ⟨by rw [length_fldCells, List.length_set], .inr ⟨g, cap, _, rfl, hb, set5_row hg (i * 5) f, hc, hm, by simp [hs], ?_⟩⟩
  apply List.ext_getElem?
  intro t
  by_cases htn : t < fs.length * 5
  · rw [List.getElem?_take_of_lt htn, Array.getElem?_toList, get_set5 (by omega)]
    have e1 := fldCells_get (fs.set i f) (t / 5) (t % 5) (by omega)
    have e2 := fldCells_get fs (t / 5) (t % 5) (by omega)
    rw [show t / 5 * 5 + t % 5 = t by omega] at e1 e2
    rw [e1, List.getElem?_set]
    by_cases h5 : i * 5 ≤ t ∧ t < i * 5 + 5
    · rw [if_pos h5, if_pos (by omega), if_pos hi]
      have : t - i * 5 = t % 5 := by omega
      rw [this]
      rfl
    · rw [if_neg h5, if_neg (by omega), ← e2, ← ht, List.getElem?_take_of_lt htn, Array.getElem?_toList]
  · rw [List.getElem?_eq_none (by simp; omega), List.getElem?_eq_none (by rw [length_fldCells, List.length_set]; omega)]

/-- Two fields change places. -/
def swF (fs : List Fld) (i j : Nat) : List Fld := (fs.set i (fs.getD j default)).set j (fs.getD i default)
theorem length_swF (fs : List Fld) (i j : Nat) : (swF fs i j).length = fs.length := by simp [swF]
theorem FlAt.swap {W : World} {B g cap : Nat} {fs : List Fld} (h : FlAt W B g cap fs) {i j : Nat} (hi : i < fs.length) (hj : j < fs.length) :
    FlAt (World.set5 (World.set5 W g (i * 5) fs[j]) g (j * 5) fs[i]) B g cap (swF fs i j) ∧ W.grownBy (World.set5 (World.set5 W g (i * 5) fs[j]) g (j * 5) fs[i]) (some g) := by
  refine ⟨?_, ?_⟩
  · have := (h.set hi fs[j]).set (i := j) (by simpa using hj) fs[i]
    unfold swF
    rw [List.getD_eq_getElem?_getD, List.getD_eq_getElem?_getD, List.getElem?_eq_getElem hi, List.getElem?_eq_getElem hj]
    exact this
  · exact grown_again (set5_grown _ _ _ _) (set5_grown _ _ _ _)
end Go.Proofs.Ytaaohaihajccgaa
