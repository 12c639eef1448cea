/- The document's Right, Row; many. -/
import Derived.Test.YtmjijmkdeblefaaKdTW
import Derived.Test.YtmjijmkdeblefaaKdY
namespace Go.Proofs.Ytmjijmkdeblefaa
open Go.RowKit LM
set_option linter.unusedVariables false

theorem below_go2 {w W w' : World} (h : Below w.heap.size w W) (hb : Below W.heap.size W w') : Below w.heap.size w w' := h.trans (hb.mono h.size)

set_option maxRecDepth 100000 in
theorem many_any (h : Hd) (k : Fo) (q : Option Addr) (cap : Nat) (w : World) (hsz : 1 + k.size ≤ 1099511627776) (hsl : SlF w q cap k) :
    Calls Try.prog 10 #[.agg #[.int .u8 h.op, .string h.name, .int .i64 h.n, .slice q k.len cap]] w fun e w' => e = .returned (.bool (decide (400 < 1 + k.size))) ∧ Below w.heap.size w w' := by
  have HP := Lib.hid (Parts_any (k.size + 1) h k q cap (w.alloc (.cells #[.int .u8 h.op, .string h.name, .int .i64 h.n, .slice q k.len cap] 25)) (by omega) hsz (hsl.below (below_box _ _)))
  clear hsl
  generalize hN : 1 + k.size = N at *
  have HNN := Lib.hid hN
  clear hN
  have HD : Hid (∀ b, b = decide (400 < N) → b = decide (400 < N)) := Lib.hid fun _ h => h
  go_enter Try.func10, Try.ntmps10
  go_wp2_with fail
  refine HP.out.mono ?_
  rintro e w1 ⟨v1, ps, rfl, own1, hps, hb1⟩
  have hN2 : 1 + k.size = N := HNN.out
  have hN0 : 0 < N := by omega
  rw [hN2] at own1
  obtain ⟨g, cp, cur, rfl, hg, hb1g, hcp, hcm, hcl⟩ := own_some own1 hN0
  have HB1 := Lib.hid (below_then (below_box _ _) hb1)
  clear hb1 hcl own1 hb1g hg hps hN2
  go_wp2
  go_ret
  refine ⟨ret_bool ?_, HB1.out⟩
  rw [Bool.eq_iff_iff]; simp; omega

theorem shape_t (h : Hd) (k : Fo) (q : Option Addr) (cap : Nat) (w : World) (hh : h.ok) (hk : k.ok) (hsl : SlF w q cap k) :
    Calls Try.prog 59 #[.agg #[.int .u8 h.op, .string h.name, .int .i64 h.n, .slice q k.len cap], .int .u8 116] w fun e w' => e = .returned (.bool (shape1 h k 1)) ∧ Below w.heap.size w w' :=
  shape_any (k.size + 1) h k 1 116 q cap w (by omega) hh hk (.inl rfl) rfl hsl
theorem shape_r (h : Hd) (k : Fo) (q : Option Addr) (cap : Nat) (w : World) (hh : h.ok) (hk : k.ok) (hsl : SlF w q cap k) :
    Calls Try.prog 59 #[.agg #[.int .u8 h.op, .string h.name, .int .i64 h.n, .slice q k.len cap], .int .u8 114] w fun e w' => e = .returned (.bool (shape1 h k 2)) ∧ Below w.heap.size w w' :=
  shape_any (k.size + 1) h k 2 114 q cap w (by omega) hh hk (.inr rfl) rfl hsl

set_option maxRecDepth 100000 in
theorem refRight_any (h : Hd) (k : Fo) (q : Option Addr) (cap : Nat) (w : World) (hh : h.ok) (hk : k.ok) (hsz : 1 + k.size ≤ 1099511627776) (hsl : SlF w q cap k) :
    Calls Try.prog 14 #[.agg #[.int .u8 h.op, .string h.name, .int .i64 h.n, .slice q k.len cap]] w fun e w' => e = .returned (.bool (rightB h k 1)) ∧ Below w.heap.size w w' := by
  have HS := Lib.hid fun w' hb => shape_t h k q cap w' hh hk (hsl.below (w := w) hb)
  have HO := Lib.hid fun w' hb => once_any h k q cap w' hsz (hsl.below (w := w) hb)
  have HR : Hid (rightB h k 1 = (shape1 h k 1 && onceB ((h, k) :: k.flat))) := Lib.hid (by unfold rightB shape1; simp [Fo.flat])
  clear hh hk hsz hsl
  generalize rightB h k 1 = r at *
  generalize onceB ((h, k) :: k.flat) = r2 at *
  generalize k.len = L at *
  cases hs : shape1 h k 1
  · rw [hs] at HS HR
    clear hs
    go_enter Try.func14, Try.ntmps14
    go_wp2_with (first
      | (go_at_call 59; refine (HS.out _ (below_box _ _)).mono ?_; rintro e w1 ⟨rfl, hb1⟩; obtain ⟨hbc, hbf⟩ := bcell hb1; have HB1 := Lib.hid (below_then (below_box _ _) hb1); clear hb1)
      | (go_at_call 60; refine (HO.out _ HB1.out).mono ?_; rintro e w2 ⟨rfl, hb2⟩; have HB2 := Lib.hid (below_go2 HB1.out hb2); clear hb2))
    go_ret
    exact ⟨ret_bool (by rw [HR.out]; rfl), HB1.out⟩
  · rw [hs] at HS HR
    clear hs
    go_enter Try.func14, Try.ntmps14
    go_wp2_with (first
      | (go_at_call 59; refine (HS.out _ (below_box _ _)).mono ?_; rintro e w1 ⟨rfl, hb1⟩; obtain ⟨hbc, hbf⟩ := bcell hb1; have HB1 := Lib.hid (below_then (below_box _ _) hb1); clear hb1)
      | (go_at_call 60; refine (HO.out _ HB1.out).mono ?_; rintro e w2 ⟨rfl, hb2⟩; have HB2 := Lib.hid (below_go2 HB1.out hb2); clear hb2))
    go_ret
    exact ⟨ret_bool (by rw [HR.out]; rfl), HB2.out⟩

set_option maxRecDepth 100000 in
theorem refRow_any (h : Hd) (k : Fo) (q : Option Addr) (cap : Nat) (w : World) (hh : h.ok) (hk : k.ok) (hsz : 1 + k.size ≤ 1099511627776) (hsl : SlF w q cap k) :
    Calls Try.prog 15 #[.agg #[.int .u8 h.op, .string h.name, .int .i64 h.n, .slice q k.len cap]] w fun e w' => e = .returned (.bool (rightB h k 2)) ∧ Below w.heap.size w w' := by
  have HS := Lib.hid fun w' hb => shape_r h k q cap w' hh hk (hsl.below (w := w) hb)
  have HO := Lib.hid fun w' hb => once_any h k q cap w' hsz (hsl.below (w := w) hb)
  have HR : Hid (rightB h k 2 = (shape1 h k 2 && onceB ((h, k) :: k.flat))) := Lib.hid (by unfold rightB shape1; simp [Fo.flat])
  clear hh hk hsz hsl
  generalize rightB h k 2 = r at *
  generalize onceB ((h, k) :: k.flat) = r2 at *
  generalize k.len = L at *
  cases hs : shape1 h k 2
  · rw [hs] at HS HR
    clear hs
    go_enter Try.func15, Try.ntmps15
    go_wp2_with (first
      | (go_at_call 59; refine (HS.out _ (below_box _ _)).mono ?_; rintro e w1 ⟨rfl, hb1⟩; obtain ⟨hbc, hbf⟩ := bcell hb1; have HB1 := Lib.hid (below_then (below_box _ _) hb1); clear hb1)
      | (go_at_call 60; refine (HO.out _ HB1.out).mono ?_; rintro e w2 ⟨rfl, hb2⟩; have HB2 := Lib.hid (below_go2 HB1.out hb2); clear hb2))
    go_ret
    exact ⟨ret_bool (by rw [HR.out]; rfl), HB1.out⟩
  · rw [hs] at HS HR
    clear hs
    go_enter Try.func15, Try.ntmps15
    go_wp2_with (first
      | (go_at_call 59; refine (HS.out _ (below_box _ _)).mono ?_; rintro e w1 ⟨rfl, hb1⟩; obtain ⟨hbc, hbf⟩ := bcell hb1; have HB1 := Lib.hid (below_then (below_box _ _) hb1); clear hb1)
      | (go_at_call 60; refine (HO.out _ HB1.out).mono ?_; rintro e w2 ⟨rfl, hb2⟩; have HB2 := Lib.hid (below_go2 HB1.out hb2); clear hb2))
    go_ret
    exact ⟨ret_bool (by rw [HR.out]; rfl), HB2.out⟩

end Go.Proofs.Ytmjijmkdeblefaa
