/- The document's shape, whole. -/
import Derived.Test.YtaaohaihajccgaaKdV
import Derived.Test.YtaaohaihajccgaaLxC
namespace Go.Proofs.Ytaaohaihajccgaa
open Go.RowKit LM
set_option linter.unusedVariables false

theorem Fo.get_ok : ∀ {k : Fo} {i : Nat}, k.ok → i < k.len → (k.get i).1.ok ∧ (k.get i).2.ok
  | .nil, _, _, h => by simp [Fo.len] at h
  | .cons h k r, 0, ho, _ => by rw [Fo.get_zero]; exact ⟨ho.1, ho.2.1⟩
  | .cons h k r, i + 1, ho, hi => by
    rw [Fo.get_succ]
    exact Fo.get_ok (k := r) (i := i) ho.2.2 (by simpa [Fo.len] using hi)
theorem shapeH (op : Int) (name : ByteArray) (h0 : 0 ≤ op) (h1 : op ≤ 255) (hn : name.size ≤ maxLen) : ShapeH op name :=
  ⟨fun w => Kids_any op w h0 h1, fun w => refWord_any name w (by unfold maxLen at hn; omega)⟩

theorem shape_any (m : Nat) : ∀ (h : Hd) (k : Fo) (s : Nat) (c : UInt8) (q : Option Addr) (cap : Nat) (w : World), k.size < m → h.ok → k.ok → (s = 1 ∨ s = 2) → c = ltr s → SlF w q cap k →
    Calls Try.prog 47 #[.agg #[.int .u8 h.op, .string h.name, .int .i64 h.n, .slice q k.len cap], .int .u8 c.toNat] w fun e w' => e = .returned (.bool (shape1 h k s)) ∧ Below w.heap.size w w' := by
  induction m with
  | zero => intro h k s c q cap w hm; omega
  | succ m ih =>
    intro h k s c q cap w hm hok kok hs hc hsl
    have H := Lib.hid (shapeH h.op h.name hok.op0 hok.op1 hok.name)
    cases hk : kidsL h.op with
    | none => rw [shape1_none hk]; exact shape_none _ _ _ _ _ _ s c w H hs hc hk
    | some ks =>
      by_cases hso : sortO h.op = s
      · by_cases hl : k.len = ks.length
        · by_cases hnm : nameB h = true
          · by_cases hn : numB h = true
            · rw [shape1_go hk hso (by rw [headB_eq, hnm, hn]; rfl)]
              refine shape_yes _ _ _ k cap q s c w H hs hc ks hk hso hl hnm hn hsl ?_
              intro i hi c' w' q' cap' hc' hsl'
              have hik : i < k.len := by omega
              exact ih _ _ _ c' q' cap' w' (by have := Fo.get_size hik; omega) (Fo.get_ok kok hik).1 (Fo.get_ok kok hik).2 ((kidsL_le hk).2 _ (List.getElem_mem _)) hc' hsl'
            · have hn' : numB h = false := by simpa using hn
              rw [shape1_head hk (by rw [headB_eq, hn']; simp)]
              by_cases h11 : h.op = 11
              · exact shape_numR _ _ _ _ _ _ s c w H hs hc ks hk hso hl h11 (by simpa [nameB, h11] using hnm) hn'
              · exact shape_numT _ _ _ _ _ _ s c w H hs hc ks hk hso hl h11 (by simpa [nameB, h11] using hnm) hn'
          · have hnm' : nameB h = false := by simpa using hnm
            rw [shape1_head hk (by rw [headB_eq, hnm']; simp)]
            by_cases h11 : h.op = 11
            · exact shape_word _ _ _ _ _ _ s c w H hs hc ks hk hso hl h11 (by simpa [nameB, h11] using hnm')
            · exact shape_name _ _ _ _ _ _ s c w H hs hc ks hk hso hl h11 (by simpa [nameB, h11] using hnm')
        · rw [shape1_len hk hl]; exact shape_len _ _ _ _ _ _ s c w H hs hc ks hk hso hl
      · rw [shape1_sort hk hso]; exact shape_sort _ _ _ _ _ _ s c w H hs hc ks hk hso

end Go.Proofs.Ytaaohaihajccgaa
