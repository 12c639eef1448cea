/- Size and sound. -/
import Derived.Test.YtmjijmkdeblefaaKdF
namespace Go.Proofs.Ytmjijmkdeblefaa
open Go.RowKit Go.Shelf LM
set_option linter.unusedVariables false
attribute [local go_sem] Oper.semAt_some

theorem parts_any (p : Option Addr) (w : World) :
    Calls Try.prog 57 #[.pointer p] w fun e w' => e = .returned (.func (.func 88) #[] #[.pointer (some ⟨w.heap.size, 0, none⟩)]) ∧ w' = w.alloc (.cells #[.pointer p] 64) := by
  go_enter Try.func57, Try.ntmps57
  go_wp2
  go_ret
  exact ⟨rfl, rfl⟩

/-- A tree that came by value, in the box of a parameter. -/
theorem boxed_st (w : World) (h : Hd) (f : Fo) (q : Option Addr) (cap : Nat) (hf : SlF w q cap f) :
    StAt (w.alloc (.cells #[.int .u8 h.op, .string h.name, .int .i64 h.n, .slice q f.len cap] 25)) [(w.heap.size, 0)] [(h, f)] := by
  have hc : (w.alloc (.cells #[.int .u8 h.op, .string h.name, .int .i64 h.n, .slice q f.len cap] 25)).heap[w.heap.size]? = some (.cells #[.int .u8 h.op, .string h.name, .int .i64 h.n, .slice q f.len cap] 25 (0, 0)) := World.alloc_heap_new w _
  refine ⟨⟨q, cap, ⟨?_, ?_, ?_, ?_, hf.lc, hf.cm⟩, hf.below ((Below.refl _ _).alloc (Nat.le_refl _) _)⟩, trivial⟩ <;> (simp only [World.cell?, hc]; rfl)

theorem flatL_one (h : Hd) (f : Fo) : flatL [(h, f)] = (Fo.cons h f .nil).flat := by simp [flatL, Fo.flat]
theorem length_one (h : Hd) (f : Fo) : (flatL [(h, f)]).length = 1 + f.size := by rw [flatL_one, Fo.length_flat]; simp [Fo.size]

theorem below_put {B K : Nat} {w W : World} {o o' : Obj} (hb : Below B w W) (hK : W.heap[K]? = some o) (h : B ≤ K) : Below B w (W.putObj K o') :=
  hb.grown (grownBy_putObj' W K o') (by have := (Array.getElem?_eq_some_iff.1 hK).1; omega) (fun k e => by cases e; exact h)
theorem Tch.grown {n₀ : Nat} {D : Nat → Prop} {W W' : World} {row : Option Nat} (hg : W.grownBy W' row) (hr : ∀ r, row = some r → r < n₀ ∨ D r) : Tch n₀ D D W W' :=
  ⟨hg.size, fun b hb hlt hd => hg.block b hlt (fun e => (hr b e.symm).elim (fun h => by omega) hd), fun b h => .inl h, fun b h => h⟩
theorem Tch.set {n₀ : Nat} {D : Nat → Prop} {W : World} {b : Nat} (v : Value) (hb : b < n₀) : Tch n₀ D D W (W.setCell ⟨b, 0, none⟩ v) := .grown (grownBy_setCell' W b v) (fun r e => by cases e; exact .inl hb)

end Go.Proofs.Ytmjijmkdeblefaa
