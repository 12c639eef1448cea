/- Dyn, Fun, Rec, Vnt. -/
import Derived.Test.YtmjijmkdeblefaaKdS
namespace Go.Proofs.Ytmjijmkdeblefaa
open Go.RowKit LM
set_option linter.unusedVariables false

/-- A tree comes back. -/
def TrPost (w : World) (h : Hd) (k : Fo) (e : Ending) (w' : World) : Prop :=
  ∃ q cap, e = .returned (.agg #[.int .u8 h.op, .string h.name, .int .i64 h.n, .slice q k.len cap]) ∧ SlF w' q cap k ∧ Below w.heap.size w w'

theorem one_fo {w : World} {g : Nat} {h0 : Hd} {k0 : Fo} {q0 : Option Addr} {cap0 : Nat}
    (hg : w.heap[g]? = some (.cells #[.int .u8 h0.op, .string h0.name, .int .i64 h0.n, .slice q0 k0.len cap0] 25 (0, 0))) (s0 : SlF w q0 cap0 k0) :
    SlF w (some ⟨g, 0, none⟩) 1 (.cons h0 k0 .nil) := by
  refine ⟨Nat.le_refl _, by unfold maxLen; omega, fun _ => ⟨g, 0, rfl, q0, cap0, ⟨?_, ?_, ?_, ?_, s0.lc, s0.cm⟩, s0.at_, trivial⟩⟩ <;> simp [World.cell?, hg]

/-- The result's cell is written behind a call that made a tree of its own. -/
theorem store_end {w W w2 : World} {b : Nat} {q' : Option Addr} {f : Fo} {F : List Nat} {cap' : Nat} (hW : Below w.heap.size w W) (hb : Below W.heap.size W w2) (hbw : w.heap.size ≤ b) (hbW : b < W.heap.size)
    (ho : OwnF w2 q' f F) (hF : ∀ c ∈ F, W.heap.size ≤ c ∧ c < w2.heap.size) (h1 : f.len ≤ cap') (h2 : cap' ≤ maxLen) (v0 v1 v2 v3 : Value) :
    SlF (World.set4 w2 b v0 v1 v2 v3) q' cap' f ∧ Below w.heap.size w (World.set4 w2 b v0 v1 v2 v3) := by
  have hg := set4_grown w2 b v0 v1 v2 v3
  have hb0 : Below w.heap.size w w2 := hW.trans (hb.mono hW.size)
  refine ⟨(ho.keep fun c hc => hg.block c (hF c hc).2 (fun e => by have := (hF c hc).1; cases e; omega)).slF h1 h2, hb0.grown hg hb0.size (fun r e => by cases e; exact hbw)⟩

set_option maxRecDepth 100000 in
theorem Rec_any (h : Hd) (k : Fo) (q : Option Addr) (cap : Nat) (w : World) (hh : h.ok) (hs : SlF w q cap k) (hk : k.ok) (hsz : 2 + k.size ≤ 1099511627776) :
    Calls Try.prog 29 #[.agg #[.int .u8 h.op, .string h.name, .int .i64 h.n, .slice q k.len cap]] w (TrPost w ⟨5, ⟨#[]⟩, 0⟩ (.cons h k .nil)) := by
  obtain ⟨W, hWd⟩ : ∃ W, W = ((w.alloc (.cells #[.int .u8 h.op, .string h.name, .int .i64 h.n, .slice q k.len cap] 25)).alloc (.cells #[.int .u8 0, .string ⟨#[]⟩, .int .i64 0, .slice none 0 0] 25)).alloc (.cells #[.int .u8 h.op, .string h.name, .int .i64 h.n, .slice q k.len cap] 25) := ⟨_, rfl⟩
  have hbW : Below w.heap.size w W := by rw [hWd]; exact (((below_box _ _).alloc (by simp) _).alloc (by simp; omega) _)
  have hx1 : W.heap[w.heap.size + 2]? = some (.cells #[.int .u8 h.op, .string h.name, .int .i64 h.n, .slice q k.len cap] 25 (0, 0)) := by
    have := World.alloc_heap_new ((w.alloc (.cells #[.int .u8 h.op, .string h.name, .int .i64 h.n, .slice q k.len cap] 25)).alloc (.cells #[.int .u8 0, .string ⟨#[]⟩, .int .i64 0, .slice none 0 0] 25)) (.cells #[.int .u8 h.op, .string h.name, .int .i64 h.n, .slice q k.len cap] 25)
    simp only [World.size_alloc] at this
    rw [hWd]; exact this
  have hx2 : W.heap[w.heap.size + 1]? = some (.cells #[.int .u8 0, .string ⟨#[]⟩, .int .i64 0, .slice none 0 0] 25 (0, 0)) := by
    have := World.alloc_heap_new (w.alloc (.cells #[.int .u8 h.op, .string h.name, .int .i64 h.n, .slice q k.len cap] 25)) (.cells #[.int .u8 0, .string ⟨#[]⟩, .int .i64 0, .slice none 0 0] 25)
    simp only [World.size_alloc] at this
    rw [hWd]; exact ((below_box _ _).block _ (by simp)).trans this
  have hsz3 : W.heap.size = w.heap.size + 3 := by rw [hWd]; simp
  have HC := Lib.hid (copied_any ⟨5, ⟨#[]⟩, 0⟩ (.cons h k .nil) (some ⟨w.heap.size + 2, 0, none⟩) 1 W (hd_ok (by omega) (by omega) (by decide)) (one_fo hx1 (hs.below hbW)) ⟨hh, hk, trivial⟩ (by simp [Fo.size]; omega))
  have HX := Lib.hid hx2
  have HW := Lib.hid hbW
  have HZ := Lib.hid hsz3
  have HWD := Lib.hid hWd
  clear hs hk hbW hx1 hx2 hsz3 hWd
  go_enter Try.func29, Try.ntmps29
  go_wp2_with fail
  rw [← HWD.out]
  refine HC.out.mono ?_
  rintro e w2 ⟨q', cap', F, rfl, h1, h2, hown, hnd, hF, hb⟩
  have hres := (hb.block _ (by rw [HZ.out]; omega)).trans HX.out
  obtain ⟨y0, y1, y2, y3, z0, z1, z2, z3⟩ := row4 hres
  have HE := Lib.hid (store_end (b := w.heap.size + 1) HW.out hb (by omega) (by rw [HZ.out]; omega) hown hF h1 h2 (.int .u8 5) (.string ⟨#[]⟩) (.int .i64 0) (.slice q' (Fo.cons h k .nil).len cap'))
  clear hown hF hb hres HX hnd
  go_wp2
  exact bodyPost_ret (v := .agg #[.int .u8 5, .string ⟨#[]⟩, .int .i64 0, .slice q' (Fo.cons h k .nil).len cap']) (by simp [results, Try.results29, go_sem, y0, y1, y2, y3]) rfl ⟨_, _, rfl, HE.out.1, HE.out.2⟩

end Go.Proofs.Ytmjijmkdeblefaa
