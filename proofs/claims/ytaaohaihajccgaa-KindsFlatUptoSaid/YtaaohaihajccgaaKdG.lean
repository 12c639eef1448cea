/- Size and sound. -/
import Derived.Test.YtaaohaihajccgaaKdF
namespace Go.Proofs.Ytaaohaihajccgaa
open Go.RowKit Go.Shelf LM
set_option linter.unusedVariables false
attribute [local go_sem] Oper.semAt_some

theorem parts_any (p : Option Addr) (w : World) :
    Calls Try.prog 49 #[.pointer p] w fun e w' => e = .returned (.func (.func 66) #[] #[.pointer (some ⟨w.heap.size, 0, none⟩)]) ∧ w' = w.alloc (.cells #[.pointer p] 56) := by
  go_enter Try.func49, Try.ntmps49
  go_wp2
  go_ret
  exact ⟨rfl, rfl⟩

/-- A tree that came by value, in the box of a parameter. -/
theorem boxed_st (w : World) (h : Hd) (f : Fo) (q : Option Addr) (cap : Nat) (hf : SlF w q cap f) :
    StAt (w.alloc (.cells #[.int .u8 h.op, .string h.name, .int .i64 h.n, .slice q f.len cap] 25)) [(w.heap.size, 0)] [(h, f)] := by
  have hc : (w.alloc (.cells #[.int .u8 h.op, .string h.name, .int .i64 h.n, .slice q f.len cap] 25)).heap[w.heap.size]? = some (.cells #[.int .u8 h.op, .string h.name, .int .i64 h.n, .slice q f.len cap] 25 (0, 0)) := World.alloc_heap_new w _
  refine ⟨⟨q, cap, ⟨?_, ?_, ?_, ?_, hf.lc, hf.cm⟩, hf.below ((Below.refl _ _).alloc (Nat.le_refl _) _)⟩, trivial⟩ <;> (simp only [World.cell?, hc]; rfl)

theorem flatL_one (h : Hd) (f : Fo) : flatL [(h, f)] = (Fo.cons h f .nil).flat := by simp [flatL, Fo.flat]
theorem length_one (h : Hd) (f : Fo) : (flatL [(h, f)]).length = 1 + f.size := by rw [flatL_one, Fo.length_flat]; simp [Fo.size]

theorem below_put {B K : Nat} {w W : World} {o o' : Obj} (hb : Below B w W) (hK : W.heap[K]? = some o) (h : B ≤ K) : Below B w (W.putObj K o') :=
  hb.grown (grownBy_putObj' W K o') (by have := (Array.getElem?_eq_some_iff.1 hK).1; omega) (fun k e => by cases e; exact h)
theorem Tch.grown {n₀ : Nat} {D : Nat → Prop} {W W' : World} {row : Option Nat} (hg : W.grownBy W' row) (hr : ∀ r, row = some r → r < n₀ ∨ D r) : Tch n₀ D D W W' :=
  ⟨hg.size, fun b hb hlt hd => hg.block b hlt (fun e => (hr b e.symm).elim (fun h => by omega) hd), fun b h => .inl h, fun b h => h⟩
theorem Tch.set {n₀ : Nat} {D : Nat → Prop} {W : World} {b : Nat} (v : Value) (hb : b < n₀) : Tch n₀ D D W (W.setCell ⟨b, 0, none⟩ v) := .grown (grownBy_setCell' W b v) (fun r e => by cases e; exact .inl hb)

set_option maxRecDepth 100000 in
set_option maxHeartbeats 2000000 in
theorem Size_any (h : Hd) (f : Fo) (q : Option Addr) (cap : Nat) (w : World) (hh : h.ok) (hf : SlF w q cap f) (hok : f.ok) (hsz : 1 + f.size ≤ 1099511627776) :
    Calls Try.prog 15 #[.agg #[.int .u8 h.op, .string h.name, .int .i64 h.n, .slice q f.len cap]] w fun e w' => e = .returned (.int .i64 (1 + f.size : Nat)) ∧ Below w.heap.size w w' := by
  refine (callsIn_wide (n := 9)).1 ?_
  have hst := boxed_st w h f q cap hf
  have hall := length_one h f
  have HP := Lib.hid parts_any
  refine callsIn_of_wp_marks Try.func15 rfl trivial ?_ rfl
  simp only [Try.ntmps15, List.size_toArray, List.length_cons, List.length_nil, Nat.reduceAdd, Nat.reduceSub, Array.replicate_succ, Array.replicate_zero, List.push_toArray, List.append_toArray, List.nil_append, List.cons_append]
  gi_wp2_with (refine ⟨trivial, ?_⟩; gi_at_call 49; refine (callsIn_wide.2 (HP.out _ _)).mono ?_; rintro e w' ⟨rfl, rfl⟩)
  refine range_read rfl (by omega) (Bn := w.heap.size + 1 + 1) rfl trivial (w.heap.size, 0) ?c1 rfl _ ?c2 (h, f) hst ?c3 ?c4
    (fun pre D W => Boxed W (w.heap.size + 1) 3 (.int .i64 pre.length)) (fun _ _ _ _ => False)
    (fun pre D X Y row hx hg hr => hx.kept hg (fun e => by have := (hr _ e.symm).1; simp at this; omega)) (fun _ _ _ _ _ _ hx _ _ => hx.elim) ?c5
    (fun p => { tmps := #[.agg #[.int .u8 h.op, .string h.name, .int .i64 h.n, .slice q f.len cap], .pointer (some ⟨w.heap.size, 0, none⟩), .int .i64 0, .pointer (some ⟨w.heap.size + 1, 0, none⟩), .func (.func 66) #[] #[.pointer (some ⟨w.heap.size + 1 + 1, 0, none⟩)], .pointer (some ⟨p.1, p.2, none⟩), undef, undef, undef], defers := [] }) ?assign ?body ?done ?stop
  case assign =>
    intro l p W K hK
    gi_wp2
    simpa using hK
  case c1 =>
    have := World.alloc_heap_new ((w.alloc (.cells #[.int .u8 h.op, .string h.name, .int .i64 h.n, .slice q f.len cap] 25)).alloc (.cells #[.int .i64 0] 3)) (.cells #[.pointer (some ⟨w.heap.size, 0, none⟩)] 56)
    rw [World.size_alloc, World.size_alloc] at this
    simp only [World.cell?, this]; rfl
  case c2 => exact ((Below.refl _ _).alloc (by simp) _).alloc (by simp) _
  case c3 => intro t ht; simp at ht; subst ht; exact ⟨hh, hok⟩
  case c4 => rw [hall]; exact hsz
  case c5 => exact (by have := Boxed.new (w.alloc (.cells #[.int .u8 h.op, .string h.name, .int .i64 h.n, .slice q f.len cap] 25)) 3 (.int .i64 0); rw [World.size_alloc] at this; exact this.alloc _)
  case body =>
    rintro l pre x rest p D W he hB hp hlt hx1 hx2 hW hD hbox
    have hc := hbox.cell
    have hfz := hbox.frozen
    have hlen : pre.length + 1 ≤ 1099511627776 := by rw [he] at hall; simp at hall; omega
    gi_wp2
    refine ⟨D, Tch.set _ (by simp), (Below.refl _ _).setCell (p := ⟨w.heap.size + 1, 0, none⟩) (by simp) _, ?_⟩
    have := hbox.set (.int .i64 (pre.length + 1))
    simpa using this
  case done =>
    rintro K D W hK hDK hB hbox hKd
    have hc := hbox.cell
    rw [hall] at hc
    gi_wp2
    refine ⟨by simp, .inl ⟨_, _, rfl, run_takeDeferred hKd, ?_⟩⟩
    have hB2 : Below w.heap.size w W := ((Below.refl _ _).alloc (Nat.le_refl _) _).trans (hB.mono (by simp))
    refine ⟨_, results_tmp rfl _ _ _, ?_, below_put hB2 hKd (by simp at hK; omega)⟩
    exact ret_int (a := 1 + (f.size : Int)) (by omega)
  case stop =>
    rintro K c pre rest D W hK hDK he hB hx hKd
    exact hx.elim

end Go.Proofs.Ytaaohaihajccgaa
