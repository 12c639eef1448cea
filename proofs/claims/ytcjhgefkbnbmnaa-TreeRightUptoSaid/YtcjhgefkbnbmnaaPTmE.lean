/- tree.Count, tree.Depth. -/
import Derived.Test.YtcjhgefkbnbmnaaPTmD
namespace Go.Proofs.Ytcjhgefkbnbmnaa
open Go.RowKit Go.Shelf LM
set_option linter.unusedVariables false
attribute [local go_sem] Oper.semAt_some

/-- How many nodes are on the longest way down. -/
def TF.dep : TF → Nat
  | .nil => 0
  | .cons h k r => max (1 + k.dep) r.dep
/-- The greatest level. -/
def mxL (l : List LT) : Nat := l.foldl (fun m t => max m t.1) 0
theorem mxL_snoc (l : List LT) (x : LT) : mxL (l ++ [x]) = max (mxL l) x.1 := by simp [mxL]
theorem mxL_fold (l : List LT) : ∀ m, l.foldl (fun m t => max m t.1) m = max m (mxL l) := by
  induction l with
  | nil => intro m; simp [mxL]
  | cons x l ih => intro m; simp only [mxL, List.foldl_cons]; rw [ih, ih (max 0 x.1)]; omega
theorem mxL_append (a b : List LT) : mxL (a ++ b) = max (mxL a) (mxL b) := by unfold mxL; rw [List.foldl_append, mxL_fold]; rfl
theorem mxL_cons (x : LT) (l : List LT) : mxL (x :: l) = max x.1 (mxL l) := by
  have := mxL_append [x] l
  simpa [mxL] using this
theorem mxL_lflat (f : TF) : ∀ n, 1 ≤ n → mxL (f.lflat n) = if f.dep = 0 then 0 else n - 1 + f.dep := by
  induction f with
  | nil => intro n _; rfl
  | cons h k r hk hr =>
    intro n hn
    rw [TF.lflat, mxL_cons, mxL_append, hk (n + 1) (by omega), hr n hn]
    have e : (TF.cons h k r).dep = max (1 + k.dep) r.dep := rfl
    rw [if_neg (show ¬ (TF.cons h k r).dep = 0 by rw [e]; omega), e]
    split <;> split <;> omega
theorem mxL_one (h : TH) (f : TF) : mxL (lflatL [(1, h, f)]) = 1 + f.dep := by
  rw [lflatL_one, mxL_lflat _ 1 (Nat.le_refl _)]
  have e : (TF.cons h f .nil).dep = max (1 + f.dep) 0 := rfl
  rw [if_neg (show ¬ (TF.cons h f .nil).dep = 0 by rw [e]; omega), e]
  omega
theorem mxL_le {l : List LT} {n : Nat} (h : ∀ t ∈ l, t.1 ≤ n) : mxL l ≤ n := by
  induction l with
  | nil => simp [mxL]
  | cons x l ih => rw [mxL_cons]; have := h x (by simp); have := ih (fun t ht => h t (by simp [ht])); omega

set_option maxRecDepth 100000 in
set_option maxHeartbeats 2000000 in
theorem Depth_any (h : TH) (f : TF) (qa : Option Addr) (ca : Nat) (q : Option Addr) (cap : Nat) (w : World) (hh : h.ok) (ha : SlF w qa ca h.ak) (hf : TSl w q cap f) (hok : f.ok) (hsz : 1 + f.size ≤ 1099511627776) :
    Calls Try.prog 37 #[.agg (tmV h qa ca q f.len cap)] w fun e w' => e = .returned (.int .i64 (1 + f.dep : Nat)) ∧ Below w.heap.size w w' := by
  refine (callsIn_wide (n := 9)).1 ?_
  have hst := tboxed_st w h f qa ca q cap ha hf
  have hall := length_lone 1 h f
  have hmx := mxL_one h f
  have HP := Lib.hid nodes_any
  unfold tmV at *
  refine callsIn_of_wp_marks Try.func37 rfl trivial ?_ rfl
  simp only [Try.ntmps37, List.size_toArray, List.length_cons, List.length_nil, Nat.reduceAdd, Nat.reduceSub, Array.replicate_succ, Array.replicate_zero, List.push_toArray, List.append_toArray, List.nil_append, List.cons_append]
  gi_wp2_with (refine ⟨trivial, ?_⟩; gi_at_call 74; refine (callsIn_wide.2 (HP.out _ _)).mono ?_; rintro e w' ⟨rfl, rfl⟩)
  refine range_look rfl (by omega) (Bn := w.heap.size + 1 + 1) rfl trivial (w.heap.size, 0) ?c1 rfl _ ?c2 (1, h, f) hst ?c3 ?c4
    (fun pre D W => Boxed W (w.heap.size + 1) 3 (.int .i64 (mxL pre)) ∧ mxL pre ≤ pre.length + 1) (fun _ _ _ _ => False)
    (fun pre D X Y row hx hg hr => ⟨hx.1.kept hg (fun e => by have := (hr _ e.symm).1; simp at this; omega), hx.2⟩) (fun _ _ _ _ _ _ hx _ _ => hx.elim) ?c5
    (fun p => { tmps := #[.agg #[.int .u8 h.op, .string h.name, .string h.arg, .int .i64 h.n, .bool h.has, .int .u8 h.ah.op, .string h.ah.name, .int .i64 h.ah.n, .slice qa h.ak.len ca, .slice q f.len cap], .pointer (some ⟨w.heap.size, 0, none⟩), .int .i64 0, .pointer (some ⟨w.heap.size + 1, 0, none⟩), .int .i64 p.1, .func (.func 98) #[] #[.pointer (some ⟨w.heap.size + 1 + 1, 0, none⟩)], .int .i64 p.1, .pointer (some ⟨p.2.1, p.2.2, none⟩), undef, undef, undef, undef], defers := [] }) ?assign ?body ?done ?stop
  case assign =>
    intro l p W K hK
    gi_wp2
    simpa using hK
  case c1 =>
    have := World.alloc_heap_new ((w.alloc (.cells #[.int .u8 h.op, .string h.name, .string h.arg, .int .i64 h.n, .bool h.has, .int .u8 h.ah.op, .string h.ah.name, .int .i64 h.ah.n, .slice qa h.ak.len ca, .slice q f.len cap] 43)).alloc (.cells #[.int .i64 0] 3)) (.cells #[.pointer (some ⟨w.heap.size, 0, none⟩)] 82)
    rw [World.size_alloc, World.size_alloc] at this
    simp only [World.cell?, this]; rfl
  case c2 => exact ((Below.refl _ _).alloc (by simp) _).alloc (by simp) _
  case c3 => intro t ht; simp at ht; subst ht; exact ⟨hh, hok⟩
  case c4 => rw [hall]; exact hsz
  case c5 => exact ⟨by have := Boxed.new (w.alloc (.cells #[.int .u8 h.op, .string h.name, .string h.arg, .int .i64 h.n, .bool h.has, .int .u8 h.ah.op, .string h.ah.name, .int .i64 h.ah.n, .slice qa h.ak.len ca, .slice q f.len cap] 43)) 3 (.int .i64 0); rw [World.size_alloc] at this; exact this.alloc _, by simp [mxL]⟩
  case body =>
    rintro l pre x rest p D W he hB hp hlt hlv hx1 hx2 hW hD ⟨hbox, hml⟩
    have hc := hbox.cell
    have hfz := hbox.frozen
    have hlen : pre.length + 1 ≤ 1099511627776 := by rw [he] at hall; simp at hall; omega
    have e : mxL (pre ++ [x]) = max (mxL pre) p.1 := by rw [mxL_snoc, hp.1]
    have e2 : max ((mxL pre : Nat) : Int) (p.1 : Int) = ((mxL (pre ++ [x]) : Nat) : Int) := by rw [e]; omega
    gi_wp2
    refine ⟨D, Tch.set _ (by simp), (Below.refl _ _).setCell (p := ⟨w.heap.size + 1, 0, none⟩) (by simp) _, ?_, by rw [e, List.length_append]; simp; omega⟩
    have := hbox.set (.int .i64 ((mxL (pre ++ [x]) : Nat) : Int))
    rw [e] at this ⊢
    exact this
  case done =>
    rintro K D W hK hDK hB ⟨hbox, _⟩ hKd
    have hc := hbox.cell
    rw [hmx] at hc
    gi_wp2
    refine ⟨by simp, .inl ⟨_, _, rfl, run_takeDeferred hKd, ?_⟩⟩
    have hB2 : Below w.heap.size w W := ((Below.refl _ _).alloc (Nat.le_refl _) _).trans (hB.mono (by simp))
    refine ⟨_, results_tmp rfl _ _ _, ?_, below_put hB2 hKd (by simp at hK; omega)⟩
    exact ret_int (a := 1 + (f.dep : Int)) (by omega)
  case stop =>
    rintro K c pre rest D W hK hDK he hB hx hKd
    exact hx.elim
end Go.Proofs.Ytcjhgefkbnbmnaa
