/- Tokens and texts among the arguments, opened. -/
import Derived.Test.YtifhmanmnjhfiaaDoorLxR
import Derived.Test.YtifhmanmnjhfiaaDoorRnF
import Derived.Test.YtifhmanmnjhfiaaDoorLxX
import Derived.Deep.Slices
import Derived.SliceStrings
namespace Go.Proofs.YtifhmanmnjhfiaaDoor
open Go.ChangeShapes Go.WideShapes Go.ChangeAt Go.RowKit Go.Deep LM
set_option linter.unusedVariables false

theorem four {cs : List Value} (h : cs.length = 4) : ∃ v0 v1 v2 v3, cs = [v0, v1, v2, v3] := by
  match cs, h with
  | [v0, v1, v2, v3], _ => exact ⟨v0, v1, v2, v3, rfl⟩

section
variable {H : Type} {enc : TypeId × Value → H} {w : World} {base : Nat} {spare : Nat → Bool} {held : Bool}

theorem tok_of_cells {n : Nat} {cs : List Value} {y : DataW H × List MemPlace} (h : DataW.trod enc Tryd.prog w base spare held n 37 cs = some y) : ∃ t : Tok, cs = Tok.cs t := by
  have cT : Tryd.prog.cellsOf 37 = 4 := by kernel_rfl
  have c8 : Tryd.prog.cellsOf 5 = 1 := by kernel_rfl
  have c64 : Tryd.prog.cellsOf 2 = 1 := by kernel_rfl
  have cI : Tryd.prog.cellsOf 3 = 1 := by kernel_rfl
  have cS : Tryd.prog.cellsOf 9 = 1 := by kernel_rfl
  obtain ⟨xs, k, _, _, hl, hx, hf⟩ := DataW.trod_struct Tryd.underlying37 h
  rw [cT] at hl
  obtain ⟨v0, v1, v2, v3, rfl⟩ := four hl
  have g0 : DataW.trod enc Tryd.prog w base spare held k 5 ((List.drop 0 [v0, v1, v2, v3]).take (Tryd.prog.cellsOf 5)) = xs[0]? := hf 0 _ rfl
  have g1 : DataW.trod enc Tryd.prog w base spare held k 9 ((List.drop 1 [v0, v1, v2, v3]).take (Tryd.prog.cellsOf 9)) = xs[1]? := hf 1 _ rfl
  have g2 : DataW.trod enc Tryd.prog w base spare held k 2 ((List.drop 2 [v0, v1, v2, v3]).take (Tryd.prog.cellsOf 2)) = xs[2]? := hf 2 _ rfl
  have g3 : DataW.trod enc Tryd.prog w base spare held k 3 ((List.drop 3 [v0, v1, v2, v3]).take (Tryd.prog.cellsOf 3)) = xs[3]? := hf 3 _ rfl
  rw [c8] at g0
  rw [cS] at g1
  rw [c64] at g2
  rw [cI] at g3
  have hs : xs.length = 4 := hx
  rw [List.getElem?_eq_getElem (by omega)] at g0 g1 g2 g3
  obtain ⟨a0, e0, _⟩ := DataW.trod_int Tryd.underlying5 g0
  obtain ⟨a1, e1, _⟩ := DataW.trod_string Tryd.underlying9 g1
  obtain ⟨a2, e2, _⟩ := DataW.trod_int Tryd.underlying2 g2
  obtain ⟨a3, e3, _⟩ := DataW.trod_int Tryd.underlying3 g3
  injection e0 with e0
  injection e1 with e1
  injection e2 with e2
  injection e3 with e3
  exact ⟨⟨a0, a1, a2, a3⟩, by rw [e0, e1, e2, e3]; rfl⟩

/-- cells at an address: the address leads to no spot, and its block is there -/
theorem addr_plain {a : Addr} {v : Value} (h : w.cell? (a.add 0) = some v) : ∃ b off, a = ⟨b, off, none⟩ ∧ b < w.heap.size := by
  have h' : w.cell? a = some v := by simpa [Addr.add] using h
  have hb := block_of_cell h'
  have hs : a.spot = none := World.cell?_spot h'
  obtain ⟨b, off, spot⟩ := a
  subst hs
  exact ⟨b, off, rfl, hb⟩

instance : Inhabited Tok := ⟨⟨0, ⟨#[]⟩, 0, 0⟩⟩

theorem toks_of (a : Addr) (f : Nat → Tok) (n cap : Nat) (hl : n ≤ cap) (hm : cap ≤ 9223372036854775807)
    (hc : ∀ i, i < n → ∀ j, j < 4 → w.cell? (a.add (i * 4 + j)) = (Tok.cs (f i))[j]?) : Toks w (some a) cap ((List.range n).map f) := by
  refine ⟨by simp; omega, hm, tokCells_len _, ?_, fun h => by cases h⟩
  cases n with
  | zero => exact .inl rfl
  | succ n =>
    obtain ⟨b, off, rfl, hb⟩ := addr_plain (w := w) (a := a) (hc 0 (by omega) 0 (by omega))
    refine .inr ⟨b, off, rfl, hb, fun j u hu => ?_⟩
    have hj : j < (n + 1) * 4 := by
      have := (List.getElem?_eq_some_iff.1 hu).1
      rw [tokCells_len] at this
      simpa using this
    have e : j = (j / 4) * 4 + j % 4 := by omega
    have hq : j / 4 < n + 1 := by omega
    rw [e, tokCells_at _ _ _ (by simpa using hq) (by omega)] at hu
    have := hc (j / 4) hq (j % 4) (by omega)
    rw [← e, plain_at] at this
    rw [this, ← hu]
    simp

theorem open_tokens {v : Value} {d : DataW H} {p : List MemPlace} (hv : ∃ a n c, v = .slice a n c) (h : DataW.Trod enc Tryd.prog w base spare held 24 v d p) : ∃ a cap ts, v = .slice a ts.length cap ∧ Toks w a cap ts := by
  obtain ⟨a, n, c, rfl⟩ := hv
  obtain ⟨fuel, hf⟩ := h
  have cT : Tryd.prog.cellsOf 37 = 4 := by kernel_rfl
  rcases open_slice Tryd.underlying24 hf with ⟨hcs, _⟩ | ⟨x, l, c', m, n', D, Pl, hcs, _, hl, hm, hmm, _, hx⟩
  · simp [Value.cells] at hcs
    obtain ⟨rfl, rfl, rfl⟩ := hcs
    exact ⟨none, 0, [], rfl, toks_nil w⟩
  · simp [Value.cells] at hcs
    obtain ⟨rfl, rfl, rfl⟩ := hcs
    have hnm : n ≤ m := by rw [hmm]; split <;> omega
    obtain ⟨f, hf'⟩ := choose_lt (α := Tok) (p := fun i t => ∀ j, j < 4 → w.cell? (x.add (i * 4 + j)) = (Tok.cs t)[j]?) (n := n) (fun i hi => by
      obtain ⟨cs', h1, h2⟩ := hx i (by omega)
      obtain ⟨t, rfl⟩ := tok_of_cells h2
      rw [cT] at h1
      obtain ⟨_, _, h3⟩ := World.cells?_some h1
      exact ⟨t, fun j hj => by rw [← Go.Deep.add_add]; exact h3 j hj⟩)
    refine ⟨some x, c, (List.range n).map f, by simp, toks_of x f n c hl (by unfold maxLen at hm; omega) hf'⟩

theorem open_texts {v : Value} {d : DataW H} {p : List MemPlace} (hv : ∃ a n c, v = .slice a n c) (h : DataW.Trod enc Tryd.prog w base spare held 33 v d p) : ∃ a cap ss, v = .slice a ss.length cap ∧ Texts w a cap ss := by
  obtain ⟨a, n, c, rfl⟩ := hv
  obtain ⟨fuel, hf⟩ := h
  have cS : Tryd.prog.cellsOf 9 = 1 := by kernel_rfl
  rcases open_strings Tryd.underlying33 Tryd.underlying9 cS hf with ⟨hcs, _⟩ | ⟨x, l, c', ss, hcs, _, hl, hm, hss, _, hcell, _⟩
  · simp [Value.cells] at hcs
    obtain ⟨rfl, rfl, rfl⟩ := hcs
    exact ⟨none, 0, [], rfl, ⟨Nat.le_refl _, by omega, rfl, .inl rfl, fun _ => rfl⟩⟩
  · simp [Value.cells] at hcs
    obtain ⟨rfl, rfl, rfl⟩ := hcs
    have hnm : n ≤ ss.length := by rw [hss]; split <;> omega
    have hlen : (ss.take n).length = n := by simp; omega
    refine ⟨some x, c, ss.take n, by rw [hlen], ⟨by omega, by unfold maxLen at hm; omega, by simp, ?_, fun h => by cases h⟩⟩
    cases n with
    | zero => exact .inl (by simp)
    | succ n =>
      obtain ⟨b, off, rfl, hb⟩ := addr_plain (hcell 0 (by omega))
      refine .inr ⟨b, off, rfl, hb, fun j u hu => ?_⟩
      have hj : j < n + 1 := by
        have := (List.getElem?_eq_some_iff.1 hu).1
        simp at this
        omega
      have := hcell j (by omega)
      rw [plain_at] at this
      rw [this, ← hu]
      simp [hj, List.getD_eq_getElem?_getD, show j < ss.length by omega]
end
end Go.Proofs.YtifhmanmnjhfiaaDoor
