/- A region that draws its order, by what holds between its operations: one step an operation, whatever the order. -/
import Derived.Deep.RegionHeld3
import Derived.Lib.Hide
import Derived.Test.YtcjhgefkbnbmnaaProg
namespace Go.Proofs.Ytcjhgefkbnbmnaa
set_option linter.unusedVariables false

section
variable {P : Program} {ops : Array Oper} {Q : Exit → Act → World → Prop} {md : Region.Mode}
/-- Each operation waits for earlier ones alone. -/
def ordB (md : Region.Mode) (ops : Array Oper) : Bool := (List.range ops.size).all fun i => match ops[i]? with | some o => o.after.all fun e => !Region.binds md e || decide (e.on < i) | none => true
theorem ready_nil (hord : ordB md ops = true) {listed : Array Bool} (hs : listed.size = ops.size) (hr : Region.ready md ops listed = []) : ∀ n i, i < n → i < ops.size → listed.getD i false = true := by
  intro n
  induction n with
  | zero => intro i h; omega
  | succ n ih =>
    intro i hi hio
    cases hl : listed.getD i false with
    | true => rfl
    | false =>
      exfalso
      have hm : i ∈ Region.ready md ops listed := by
        rw [mem_ready]
        refine ⟨by simp only [Array.getD_eq_getD_getElem?] at hl ⊢; rw [Array.getElem?_eq_getElem (by omega)] at hl ⊢; simpa using hl, ops[i], Array.getElem?_eq_getElem hio, fun e he hb => ?_⟩
        have h1 := List.all_eq_true.1 hord i (List.mem_range.2 hio)
        rw [Array.getElem?_eq_getElem hio] at h1
        have h2 := Array.all_eq_true_iff_forall_mem.1 h1 e he
        simp only [hb, Bool.not_true, Bool.false_or, decide_eq_true_eq] at h2
        exact ih e.on (by omega) (by omega)
      rw [hr] at hm; cases hm
/-- What has come up, and this one. -/
def also (d : Nat → Bool) (i : Nat) : Nat → Bool := fun j => decide (j = i) || d j
theorem also_self (d : Nat → Bool) (i : Nat) : also d i i = true := by simp [also]
theorem also_other {d : Nat → Bool} {i j : Nat} (h : j ≠ i) : also d i j = d j := by simp [also, h]
theorem also_set {listed : Array Bool} {i : Nat} (hi : i < listed.size) : (fun j => (listed.setIfInBounds i true).getD j false) = also (fun j => listed.getD j false) i := by
  funext j
  simp only [also, Array.getD_eq_getD_getElem?]
  by_cases h : j = i
  · subst h; simp [hi]
  · rw [Array.getElem?_setIfInBounds_ne (Ne.symm h)]; simp [h]
/-- How many have not come up. -/
def toCome (n : Nat) (listed : Array Bool) : Nat := ((List.range n).filter fun i => !listed.getD i false).length
theorem toCome_set {n : Nat} {listed : Array Bool} {i : Nat} (hi : i < n) (hs : n = listed.size) (hl : listed.getD i false = false) : toCome n (listed.setIfInBounds i true) < toCome n listed := by
  unfold toCome
  have e : (fun j => !(listed.setIfInBounds i true).getD j false) = fun j => (!decide (j = i)) && !listed.getD j false := by
    funext j
    have := congrFun (also_set (listed := listed) (i := i) (by omega)) j
    exact (congrArg (!·) this).trans (by simp [also])
  rw [e]
  have h1 : ((List.range n).filter fun j => (!decide (j = i)) && !listed.getD j false) = ((List.range n).filter fun j => !listed.getD j false).filter fun j => !decide (j = i) := by rw [List.filter_filter]
  rw [h1]
  refine List.length_filter_lt_length_iff_exists.2 ⟨i, ?_, by simp⟩
  rw [List.mem_filter]; exact ⟨List.mem_range.2 hi, by rw [hl]; rfl⟩
theorem toCome_zero {n : Nat} {listed : Array Bool} (h : toCome n listed = 0) (i : Nat) (hi : i < n) : listed.getD i false = true := by
  unfold toCome at h
  have := List.filter_eq_nil_iff.1 (List.length_eq_zero_iff.1 h) i (List.mem_range.2 hi)
  simpa using this

theorem wpAny_inv (I : (Nat → Bool) → Act → World → Prop) (hord : ordB md ops = true)
    (hstep : ∀ i, i < ops.size → ∀ d a w, d i = false → (∀ o, ops[i]? = some o → ∀ e ∈ o.after, Region.binds md e = true → d e.on = true) → I d a w → wpOp P ops Q i (I (also d i)) a w)
    (hdone : ∀ d a w, (∀ i, i < ops.size → d i = true) → I d a w → Q .normal a w) :
    ∀ (fuel : Nat) (listed : Array Bool) (a : Act) (w : World), listed.size = ops.size → toCome ops.size listed ≤ fuel → I (fun i => listed.getD i false) a w → wpAny P md ops Q fuel listed a w := by
  intro fuel
  induction fuel with
  | zero =>
    intro listed a w hs hf hI
    have hall := toCome_zero (Nat.le_zero.1 hf)
    refine ⟨?_, hdone _ a w hall hI⟩
    cases hr : Region.ready md ops listed with
    | nil => rfl
    | cons i r =>
      exfalso
      have hm : i ∈ Region.ready md ops listed := by rw [hr]; simp
      obtain ⟨h0, o, ho, _⟩ := mem_ready.1 hm
      have hio := (Array.getElem?_eq_some_iff.1 ho).1
      have := hall i hio
      simp only [Array.getD_eq_getD_getElem?] at this h0
      rw [Array.getElem?_eq_getElem (by omega)] at this h0
      simp_all
  | succ fuel ih =>
    intro listed a w hs hf hI
    refine ⟨fun hr => hdone _ a w (fun i hi => ready_nil hord hs hr (i + 1) i (by omega) hi) hI, fun i hi => ?_⟩
    obtain ⟨h0, o, ho, hall⟩ := mem_ready.1 hi
    have hio := (Array.getElem?_eq_some_iff.1 ho).1
    have hl : listed.getD i false = false := by
      simp only [Array.getD_eq_getD_getElem?] at h0 ⊢
      rw [Array.getElem?_eq_getElem (by omega)] at h0 ⊢
      simpa using h0
    refine wpOp_mono (fun a' w' hI' => ih _ a' w' (by simpa using hs) ?_ ?_) (hstep i hio _ a w hl (fun o' ho' e he hb => ?_) hI)
    · have := toCome_set (listed := listed) hio hs.symm hl; omega
    · rw [also_set (by omega)]; exact hI'
    · rw [ho] at ho'; cases ho'; exact hall e he hb

theorem toCome_none (n : Nat) : toCome n (Array.replicate n false) ≤ n := by
  unfold toCome
  exact Nat.le_trans (List.length_filter_le _ _) (by simp)
/-- The region by what holds between its operations. -/
theorem wp_region_inv {id : Nat} {a : Act} {w : World} (I : (Nat → Bool) → Act → World → Prop) (hm : P.follows .mixedOrders = true) (hord : ordB .any ops = true)
    (h0 : I (fun _ => false) a w.drew)
    (hstep : ∀ i, i < ops.size → ∀ d a w, d i = false → (∀ o, ops[i]? = some o → ∀ e ∈ o.after, Region.binds .any e = true → d e.on = true) → I d a w → wpOp P ops Q i (I (also d i)) a w)
    (hdone : ∀ d a w, (∀ i, i < ops.size → d i = true) → I d a w → Q .normal a w) : (Code.region id ops true).wp P Q a w := by
  refine wp_region_any hm (wpAny_inv I hord hstep hdone ops.size _ a _ (by simp) (toCome_none _) ?_)
  have : (fun i => (Array.replicate ops.size false).getD i false) = fun _ => false := by
    funext i; simp only [Array.getD_eq_getD_getElem?]
    by_cases h : i < ops.size
    · simp [h]
    · rw [Array.getElem?_eq_none (by simpa using h)]; rfl
  rw [this]; exact h0
/-- One operation of it, written out. -/
theorem inv_op {i : Nat} {o : Oper} {I : Act → World → Prop} {a : Act} {w : World} (ho : ops[i]? = some o)
    (h : ∀ K : Act → World → Prop, RowKit.Hid (∀ a w, I a w → K a w) → if Region.wanted o (yielded ops a.tmps) = true then Oper.wp P o a w K Q else K (a.put o.dst undef) w) : wpOp P ops Q i I a w :=
  wpOp_step ho fun K hK => h K (Lib.hid hK)
end
end Go.Proofs.Ytcjhgefkbnbmnaa
