/- Fields are sorted: the library's insertion sort, and the stable sort of few. -/
import Derived.Test.YtmjijmkdeblefaaKdN
import Derived.Test.YtmjijmkdeblefaaShelf
import Derived.Shelf.SlSortCmp.InsertionK
namespace Go.Proofs.Ytmjijmkdeblefaa
open Go.RowKit LM Go.Shelf Go.Sort
set_option linter.unusedVariables false

def srtRen : Go.Shelf.Ren := ⟨fun | 20 => 128 | n => n, fun | 24 => 40 | 22 => 36 | 3 => 3 | 25 => 108 | 4 => 4 | 0 => 0 | n => n, fun | n => n⟩
theorem srtLays : Go.Proofs.SlLaysF0.n20 Try.prog srtRen := {
  mixed := by kernel_rfl
  f20 := ⟨"slices.insertionSortCmpFunc[rowan/api.Field]", by decide, Try.func128.trans (congrArg some (by kernel_rfl))⟩
  t0 := Try.underlying0, a0 := Try.isAgg0, z0 := Try.sizeOf0, v0 := Try.zeroValue0, t3 := Try.underlying3
  a3 := Try.isAgg3, z3 := Try.sizeOf3, v3 := Try.zeroValue3, t4 := Try.underlying4, a4 := Try.isAgg4, z4 := Try.sizeOf4
  v4 := Try.zeroValue4, t22 := Try.underlying36, a22 := Try.isAgg36, z22 := Try.sizeOf36, v22 := Try.zeroValue36
  t25 := Try.underlying108, a25 := Try.isAgg108, z25 := Try.sizeOf108, v25 := Try.zeroValue108 }

/-- Two fields by their names. -/
def fldCmp (x y : Fld) : Int := Lib.compareBytes x.name.data.toList y.name.data.toList
theorem cmp_any (x y : Fld) (w : World) :
    Calls Try.prog 95 #[.agg x.enc.toArray, .agg y.enc.toArray] w fun e w' => e = .returned (.int .i64 (fldCmp x y)) ∧ w' = (w.alloc (.cells x.enc.toArray 40)).alloc (.cells y.enc.toArray 40) := by
  have HC := Lib.hid fun w => Try.strings_Compare x.name y.name w
  obtain ⟨xn, xh, xq, xk, xc⟩ := x
  obtain ⟨yn, yh, yq, yk, yc⟩ := y
  simp only [Fld.enc, fldCmp] at *
  generalize Lib.compareBytes xn.data.toList yn.data.toList = r at *
  go_enter Try.func95, Try.ntmps95
  go_wp2_with (go_at_call 96; refine (HC.out _).mono ?_; rintro e w' ⟨rfl, rfl⟩)
  go_ret
  exact ⟨rfl, rfl⟩
theorem cmp_lays (blk off size : Nat) (w : World) : CmpLays Try.prog 95 #[] Fld.enc 5 fldCmp blk off size w := by
  intro m os dk hs x y
  refine (cmp_any x y _).mono fun e w' h => ⟨h.1, 0, #[.cells x.enc.toArray 40, .cells y.enc.toArray 40], ?_⟩
  rw [h.2, alloc_eq_grow, alloc_eq_grow, grow_grow]; rfl

theorem flat_fld (d : Array Fld) : flatK Fld.enc 5 d = (fldCells d.toList).toArray := by
  have key : ∀ (l : List Fld) (t : Nat), t < l.length * 5 → (fldCells l)[t]? = some ((l.toArray[t / 5]!).enc[t % 5]!) := by
    intro l
    induction l with
    | nil => intro t ht; simp at ht
    | cons f l ih =>
      intro t ht
      have hl : f.enc.length = 5 := rfl
      simp only [fldCells, List.flatMap_cons]
      by_cases h5 : t < 5
      · rw [List.getElem?_append_left (by rw [hl]; exact h5)]
        have e1 : t / 5 = 0 := by omega
        have e2 : t % 5 = t := by omega
        rw [e1, e2]
        simp [hl, h5]
      · rw [List.getElem?_append_right (by rw [hl]; omega), hl]
        have e1 : t / 5 = (t - 5) / 5 + 1 := by omega
        have e2 : t % 5 = (t - 5) % 5 := by omega
        have := ih (t - 5) (by simp at ht; omega)
        simp only [fldCells] at this
        rw [this, e1, e2]
        simp
  refine ext_get! (by simp [length_fldCells]) fun t ht => ?_
  have ht' : t < d.size * 5 := by simpa using ht
  rw [get_flatK _ _ _ t ht']
  have := key d.toList t (by simpa using ht')
  rw [Array.toArray_toList] at this
  simp [this]

/-- A world of the sort's, behind the list that it began with. -/
theorem sorted_world {W : World} {B g cap : Nat} {fs : List Fld} {d' : Array Fld} {m : Nat} {os : Array Obj} (h : W.ownsRow B 40 5 (.slice (some ⟨g, 0, none⟩) fs.length cap) fs.length (fldCells fs)) (hd : d'.size = fs.length) :
    (sortWorldK Fld.enc 5 W g 0 m d' os).ownsRow B 40 5 (.slice (some ⟨g, 0, none⟩) fs.length cap) fs.length (fldCells d'.toList) ∧ W.grownBy (sortWorldK Fld.enc 5 W g 0 m d' os) (some g) := by
  rcases h.2 with ⟨h0, _⟩ | ⟨g', cap', cur, e, hb, hg, hc, hm, hs, ht⟩
  · cases h0
  · cases e
    obtain ⟨hlt, hk⟩ := Array.getElem?_eq_some_iff.1 hg
    have e1 : (sortWorldK Fld.enc 5 W g 0 m d' os).heap[g]? = some (.cells (putCells id 0 (flatK Fld.enc 5 d') cur) 40 (0, 0)) := by
      unfold sortWorldK
      rw [heap_grow_old _ _ (by simp [putRowK, putRow, mapBlock]; exact hlt)]
      show (W.heap.modify g _)[g]? = _
      rw [Array.getElem?_eq_getElem (by rw [Array.size_modify]; exact hlt), Array.getElem_modify_self, hk]
      rfl
    refine ⟨⟨by rw [length_fldCells]; simp [hd], .inr ⟨g, cap, _, rfl, hb, e1, hc, hm, by simp [putCells, hs], ?_⟩⟩, ⟨rfl, rfl, rfl, by simp [sortWorldK, putRowK], fun k hk' hne => ?_⟩⟩
    · rw [flat_fld]
      have hl := length_fldCells d'.toList
      have hl' : (fldCells d'.toList).length = fs.length * 5 := by rw [hl]; simp [hd]
      apply List.ext_getElem?
      intro j
      by_cases hj : j < fs.length * 5
      · rw [List.getElem?_take_of_lt hj]
        have hj2 : j < cur.size := by rw [hs]; exact Nat.lt_of_lt_of_le hj (Nat.mul_le_mul_right 5 hc)
        simp only [putCells, Array.getElem?_toList, Array.getElem?_mapIdx, Array.getElem?_eq_getElem hj2, Option.map_some]
        rw [if_pos ⟨Nat.zero_le _, by simp [hl']; exact hj⟩]
        simp [List.getElem?_eq_getElem (show j < (fldCells d'.toList).length by rw [hl']; exact hj)]
      · rw [List.getElem?_eq_none (by simp [putCells]; omega), List.getElem?_eq_none (by rw [hl']; omega)]
    · unfold sortWorldK
      rw [heap_grow_old _ _ (by simp [putRowK, putRow, mapBlock]; exact hk')]
      show (W.heap.modify g _)[k]? = _
      rw [Array.getElem?_modify, if_neg (fun e => hne (by rw [e]))]

/-- The order of fields that the insertion sort makes. -/
def insF (fs : List Fld) : List Fld := (Sort.insertionSort (ltOf fldCmp) fs.toArray 0 fs.length).toList

theorem size_insInner {α : Type} [Inhabited α] (lt : α → α → Bool) (a : Nat) : ∀ (j : Nat) (d : Array α), (insInner lt a j d).size = d.size
  | 0, d => rfl
  | j + 1, d => by
    rw [insInner]
    split
    · rw [size_insInner lt a j]; simp [swp]
    · rfl
theorem size_insOuter {α : Type} [Inhabited α] (lt : α → α → Bool) (a b : Nat) : ∀ (n i : Nat) (d : Array α), b - i ≤ n → (insOuter lt a b i d).size = d.size := by
  intro n
  induction n with
  | zero => intro i d h; rw [insOuter, if_neg (by omega)]
  | succ n ih =>
    intro i d h
    rw [insOuter]
    split
    · rw [ih _ _ (by omega), size_insInner]
    · rfl
theorem size_insF (fs : List Fld) : (Sort.insertionSort (ltOf fldCmp) fs.toArray 0 fs.length).size = fs.length := by
  unfold Sort.insertionSort
  rw [size_insOuter _ _ _ _ _ _ (Nat.le_refl _)]; simp

set_option maxRecDepth 100000 in
theorem ins_own (W : World) (B g cap : Nat) (fs : List Fld) (h : W.ownsRow B 40 5 (.slice (some ⟨g, 0, none⟩) fs.length cap) fs.length (fldCells fs)) (hl : fs.length ≤ 1099511627776) :
    Calls Try.prog 128 #[.slice (some ⟨g, 0, none⟩) fs.length cap, .int .i64 0, .int .i64 fs.length, .func (.func 95) #[] #[]] W fun e w' => e = .returned (.tuple #[]) ∧
      w'.ownsRow B 40 5 (.slice (some ⟨g, 0, none⟩) fs.length cap) fs.length (fldCells (insF fs)) ∧ W.grownBy w' (some g) := by
  have hH : HoldsK Fld.enc 5 W g 0 fs.toArray := by
    obtain ⟨hl, h2⟩ := h
    rcases h2 with ⟨h0, _⟩ | ⟨g', cap', cur, e, hb, hg, hc, hm, hs, ht⟩
    · cases h0
    · cases e
      intro j hj
      rw [flat_fld] at hj ⊢
      have hj' : j < (fldCells fs).length := by simpa using hj
      have e1 : cur.toList[j]? = (fldCells fs)[j]? := by rw [← ht, List.getElem?_take_of_lt (by rw [length_fldCells] at hj'; exact hj')]
      refine ⟨?_, by simp [World.frozen?, hg]⟩
      simp only [World.cell?, hg]
      rw [List.getElem?_eq_getElem hj'] at e1
      simpa [hj'] using e1
  have hlt : g < W.heap.size := (h.lt g rfl).2
  have hc := AnyQ.insertionSortCmpFunc srtLays 5 Try.isAgg40 Try.sizeOf40 Fld.enc (fun _ => rfl) (fun x v hv => by simp [Fld.enc] at hv; rcases hv with rfl | rfl | rfl | rfl | rfl <;> rfl) fldCmp 95 #[] g 0 cap 0 fs.length fs.toArray W
    (enters_of Try.func95 (by kernel_rfl) rfl) (cmp_lays _ _ _ _) hH hlt (Nat.zero_le _) (by simp) (by simp; omega)
  refine (hc.mono fun e w' hh => ?_)
  obtain ⟨rfl, m, os, rfl⟩ := hh
  obtain ⟨r1, r2⟩ := sorted_world (m := m) (os := os) h (size_insF fs)
  exact ⟨rfl, r1, r2⟩

theorem ins_nil (fv : Value) (W : World) :
    Calls Try.prog 128 #[.slice none 0 0, .int .i64 0, .int .i64 0, fv] W fun e w' => e = .returned (.tuple #[]) ∧ w' = W := by
  go_enter Try.func128, Try.ntmps128
  go_wp2
  go_loop [8] (fun i => i = .int .i64 1) (fun _ => 0)
  case atStart => rfl
  case round =>
    obtain rfl := hrel
    go_wp2
    go_end0
    exact ⟨rfl, rfl⟩

theorem insF_nil : insF [] = [] := List.length_eq_zero_iff.1 (by have := size_insF []; simpa [insF] using this)
/-- What a sort of fields leaves. -/
def SrtPost (B : Nat) (v : Value) (fs : List Fld) (W : World) (e : Ending) (w' : World) : Prop := e = .returned (.tuple #[]) ∧ w'.ownsRow B 40 5 v fs.length (fldCells (insF fs)) ∧ W.grownBy w' v.ownBlock

theorem ins_any (W : World) (B : Nat) (v : Value) (fs : List Fld) (h : W.ownsRow B 40 5 v fs.length (fldCells fs)) (hl : fs.length ≤ 1099511627776) :
    Calls Try.prog 128 #[v, .int .i64 0, .int .i64 fs.length, .func (.func 95) #[] #[]] W (SrtPost B v fs W) := by
  rcases h.2 with ⟨rfl, h0⟩ | ⟨g, cap, cur, rfl, _⟩
  · obtain rfl := List.length_eq_zero_iff.1 h0
    exact (ins_nil _ W).mono fun e w' hh => ⟨hh.1, by rw [hh.2, insF_nil]; exact World.ownsRow_nil _ _ _ _, by rw [hh.2]; exact ⟨rfl, rfl, rfl, Nat.le_refl _, fun _ _ _ => rfl⟩⟩
  · exact (ins_own W B g cap fs h hl).mono fun e w' hh => ⟨hh.1, hh.2.1, hh.2.2⟩

theorem stable_few (W : World) (B : Nat) (v : Value) (fs : List Fld) (h : W.ownsRow B 40 5 v fs.length (fldCells fs)) (hl : fs.length < 20) :
    Calls Try.prog 115 #[v, .int .i64 fs.length, .func (.func 95) #[] #[]] W (SrtPost B v fs W) := by
  have HI := Lib.hid (ins_any W B v fs h (by omega))
  clear h
  generalize hn : fs.length = n at *
  have HN := Lib.hid hn
  clear hn
  go_enter Try.func115, Try.ntmps115
  go_wp2
  go_loop [7, 8] (fun a b => a = .int .i64 0 ∧ b = .int .i64 20) (fun _ _ => 0)
  case atStart => exact ⟨rfl, rfl⟩
  case round =>
    obtain ⟨rfl, rfl⟩ := hrel
    go_wp2_with (go_at_call 128; refine HI.out.mono ?_; rintro e w' ⟨rfl, hp⟩; have HP := Lib.hid hp; clear hp)
    go_loop [6] (fun a => a = .int .i64 20) (fun _ => 0)
    case atStart => rfl
    case round =>
      obtain rfl := hrel
      go_wp2
      go_end0
      exact ⟨rfl, HP.out.1, HP.out.2⟩

theorem sort_few (W : World) (B : Nat) (v : Value) (fs : List Fld) (h : W.ownsRow B 40 5 v fs.length (fldCells fs)) (hl : fs.length < 20) :
    Calls Try.prog 94 #[v, .func (.func 95) #[] #[]] W (SrtPost B v fs W) := by
  have HI := Lib.hid (stable_few W B v fs h hl)
  obtain ⟨a, cap, hv, hc⟩ : ∃ a cap, v = .slice a fs.length cap ∧ fs.length ≤ cap := by
    rcases h.2 with ⟨rfl, h0⟩ | ⟨g, cap, cur, rfl, _, _, hc, _⟩
    · exact ⟨none, 0, by rw [h0], by omega⟩
    · exact ⟨_, cap, rfl, hc⟩
  subst hv
  clear h
  generalize hn : fs.length = n at *
  have HN := Lib.hid hn
  clear hn
  go_enter Try.func94, Try.ntmps94
  go_wp2_with (go_at_call 115; refine HI.out.mono ?_; rintro e w' ⟨rfl, hp⟩; have HP := Lib.hid hp; clear hp)
  go_end0
  exact ⟨rfl, HP.out.1, HP.out.2⟩

end Go.Proofs.Ytmjijmkdeblefaa
