/- Number of what Number gave: plain. -/
import Derived.Test.YtmjijmkdeblefaaKy
import Derived.Test.YtmjijmkdeblefaaKpB
import Derived.Test.YtmjijmkdeblefaaKzA
import Derived.Test.YtmjijmkdeblefaaKzC
import Derived.Test.YtmjijmkdeblefaaKxL
import Derived.Test.YtmjijmkdeblefaaLawB
import Derived.Deep.RegionHeld3
import Derived.Test.YtmjijmkdeblefaaFlat
import Derived.Deep.RegionWith
namespace Go.Proofs.Ytmjijmkdeblefaa
open Go.RowKit LM
set_option linter.unusedVariables false

theorem idxOf_map {α β : Type} [BEq α] [LawfulBEq α] [BEq β] [LawfulBEq β] (f : α → β) : ∀ (l : List α) (x : α), (∀ y ∈ l, f y = f x → y = x) → (l.map f).idxOf (f x) = l.idxOf x
  | [], x, _ => rfl
  | y :: r, x, h => by
    rw [List.map_cons, List.idxOf_cons, List.idxOf_cons]
    by_cases e : y = x
    · subst e; simp
    · have e1 : (y == x) = false := by simpa using e
      have e2 : (f y == f x) = false := by
        have : f y ≠ f x := fun c => e (h y (by simp) c)
        simpa using this
      rw [e1, e2, cond_false, cond_false, idxOf_map f r x (fun z hz => h z (by simp [hz]))]
theorem idxOf_inj {l : List Int} {x y : Int} (hx : x ∈ l) (h : l.idxOf x = l.idxOf y) : x = y := by
  have h1 := List.idxOf_lt_length_of_mem hx
  have e1 : l[l.idxOf x]'h1 = x := List.getElem_idxOf h1
  have h2 : l.idxOf y < l.length := by rw [← h]; exact h1
  have e2 : l[l.idxOf y]'h2 = y := List.getElem_idxOf h2
  rw [← e1, ← e2]
  congr 1
theorem atL_inj {l : List Int} {x y : Int} (hx : x ∈ l) (hy : y ∈ l) (h : atL l x = atL l y) : x = y := by
  unfold atL at h
  rw [if_pos hx, if_pos hy] at h
  exact idxOf_inj hx (by exact_mod_cast h)
theorem atL_twice {l : List Int} {x : Int} (hx : x ∈ l) : atL (l.map (atL l)) (atL l x) = atL l x := by
  have hm : atL l x ∈ l.map (atL l) := List.mem_map_of_mem hx
  have e := idxOf_map (atL l) l x (fun y hy h => atL_inj hy hx h)
  have e0 : atL (l.map (atL l)) (atL l x) = ((l.map (atL l)).idxOf (atL l x) : Nat) := by rw [atL, if_pos hm]
  rw [e0, e]
  unfold atL
  rw [if_pos hx]
theorem atL_nonneg {l : List Int} {x : Int} (hx : x ∈ l) : 0 ≤ atL l x := by
  unfold atL; rw [if_pos hx]; omega

theorem numH_op (l : List Int) (h : Hd) : (numH l h).op = h.op := by unfold numH; split <;> rfl
theorem numH_name (l : List Int) (h : Hd) : (numH l h).name = h.name := by unfold numH; split <;> rfl
theorem numF_get (l : List Int) : ∀ (f : Fo), (numF l f).flat = f.flat.map fun p => (numH l p.1, numF l p.2)
  | .nil => rfl
  | .cons h k r => by
    simp only [numF, Fo.flat, List.map_cons, List.map_append, numF_get l k, numF_get l r]
theorem numF_sorts (l : List Int) : ∀ f : Fo, (numF l f).sorts = f.sorts
  | .nil => rfl
  | .cons h k r => by simp only [numF, Fo.sorts, numH_op, numF_sorts l r]

/-- All its variables stand in l. -/
def inL (l : List Int) (L : List (Hd × Fo)) : Prop := ∀ x ∈ L, isVarB x.1.op = true → x.1.n ∈ l

theorem varsL_num {l : List Int} (L : List (Hd × Fo)) : inL l L → varsL (L.map fun p => (numH l p.1, numF l p.2)) = (varsL L).map (atL l) ∧ ∀ x ∈ varsL L, x ∈ l := by
  refine snoc_ind (P := fun L => inL l L → varsL (L.map fun p => (numH l p.1, numF l p.2)) = (varsL L).map (atL l) ∧ ∀ x ∈ varsL L, x ∈ l) (fun _ => ⟨rfl, fun x hx => by cases hx⟩) (fun m p ih hL => ?_) L
  obtain ⟨h1, h2⟩ := ih (fun x hx => hL x (List.mem_append_left _ hx))
  have hp : isVarB p.1.op = true → p.1.n ∈ l := hL p (by simp)
  rw [List.map_append, List.map_singleton, varsL_snoc, varsL_snoc, h1]
  simp only [numH_op]
  by_cases hv : isVarB p.1.op = true
  · have hn := hp hv
    have en : (numH l p.1).n = atL l p.1.n := by rw [numH_yes hv]
    rw [en]
    have hmem : atL l p.1.n ∈ (varsL m).map (atL l) ↔ p.1.n ∈ varsL m := by
      constructor
      · intro h
        obtain ⟨y, hy, e⟩ := List.mem_map.1 h
        rw [← atL_inj (h2 y hy) hn e]; exact hy
      · exact fun h => List.mem_map_of_mem h
    by_cases hm : p.1.n ∈ varsL m
    · rw [if_neg (by simp [hmem, hm]), if_neg (by simp [hm])]
      exact ⟨rfl, h2⟩
    · rw [if_pos ⟨hv, by rw [hmem]; exact hm⟩, if_pos ⟨hv, hm⟩, List.map_append]
      refine ⟨rfl, fun x hx => ?_⟩
      rcases List.mem_append.1 hx with h | h
      · exact h2 x h
      · simp at h; rw [h]; exact hn
  · rw [if_neg (by simp [hv]), if_neg (by simp [hv])]
    exact ⟨rfl, h2⟩

theorem numH_twice {l : List Int} {h : Hd} (hl : isVarB h.op = true → h.n ∈ l) : numH (l.map (atL l)) (numH l h) = numH l h := by
  by_cases hv : isVarB h.op = true
  · have e1 : numH l h = ⟨h.op, h.name, atL l h.n⟩ := numH_yes hv
    rw [e1]
    have e2 : numH (l.map (atL l)) ⟨h.op, h.name, atL l h.n⟩ = ⟨h.op, h.name, atL (l.map (atL l)) (atL l h.n)⟩ := numH_yes hv
    rw [e2, atL_twice (hl hv)]
  · rw [numH_no (l := l) (by simpa using hv), numH_no (by simpa using hv)]
theorem numF_twice {l : List Int} : ∀ {f : Fo}, inL l f.flat → numF (l.map (atL l)) (numF l f) = numF l f
  | .nil, _ => rfl
  | .cons h k r, hf => by
    have e : (Fo.cons h k r).flat = (h, k) :: (k.flat ++ r.flat) := rfl
    rw [e] at hf
    simp only [numF]
    rw [numH_twice (fun hv => hf (h, k) (by simp) hv), numF_twice (fun x hx => hf x (by simp [hx])), numF_twice (fun x hx => hf x (by simp [hx]))]

/-- Renumbering goes through the canonical form. -/
theorem rowF_num (l : List Int) : ∀ (k : Fo) (h : Hd), rowF (numH l h) (numF l k) = ((rowF h k).1.map fun x => (x.1, numH l x.2.1, numF l x.2.2), numG l (rowF h k).2.1 (rowF h k).2.2)
  | .nil, h => by simp [rowF, numF, numG]
  | .cons h0 k0 .nil, h => by simp [rowF, numF, numG]
  | .cons h0 k0 (.cons h1 k1 r), h => by
    simp only [numF]
    rw [rowF, rowF, numH_op]
    by_cases hop : h.op = 11
    · rw [if_pos hop, if_pos hop, rowF_num l k1 h1]
      simp [numH_name]
    · rw [if_neg hop, if_neg hop]
      simp [numG, numF]
theorem rowT_num (l : List Int) (t : Hd × Fo) : ∀ L : List (ByteArray × Hd × Fo), rowT (numG l t.1 t.2) (L.map fun x => (x.1, numH l x.2.1, numF l x.2.2)) = numG l (rowT t L).1 (rowT t L).2
  | [] => rfl
  | (nm, h, k) :: r => by
    have e : numH l ⟨11, nm, 0⟩ = ⟨11, nm, 0⟩ := numH_no rfl
    simp only [List.map_cons, rowT, numG, numF, e]
    rw [← numG, rowT_num l t r]
    rfl
theorem rowS_num (l : List Int) (h : Hd) (k : Fo) : rowS (numH l h) (numF l k) = numG l (rowS h k).1 (rowS h k).2 := by
  unfold rowS
  rw [rowF_num]
  simp only
  rw [← rowT_num]
  congr 1
  exact (map_srt (p := fun x : ByteArray × Hd × Fo => (x.1, numH l x.2.1, numF l x.2.2)) (fun x y => rfl) _).symm
theorem topS_num (l : List Int) (h : Hd) : ∀ k : Fo, topS (numH l h) (numF l k) = numF l (topS h k)
  | .nil => rfl
  | .cons h0 k0 r => by
    simp only [numF, topS, numH_op]
    split
    · rw [rowS_num]; rfl
    · rfl
theorem canL_num (l : List Int) : ∀ (n : Nat) (f : Fo), f.size ≤ n → canL (numF l f) = numF l (canL f)
  | n, .nil, _ => by rw [numF, canL_nil, numF]
  | 0, .cons h k r, hn => by simp [Fo.size] at hn
  | n + 1, .cons h k r, hn => by
    simp only [Fo.size] at hn
    have h0 := topS_size h k
    rw [numF, canL_cons, canL_cons, numF, topS_num, canL_num l n _ (by omega), canL_num l n r (by omega)]
theorem canT_num (l : List Int) (h : Hd) (k : Fo) : canT (numH l h) (numF l k) = numG l (canT h k).1 (canT h k).2 := by
  unfold canT
  rw [rowS_num]
  simp only [numG]
  rw [topS_num, canL_num l _ _ (Nat.le_refl _)]

theorem headB_num {l : List Int} {h : Hd} (hl : isVarB h.op = true → h.n ∈ l) (hb : headB h = true) : headB (numH l h) = true := by
  by_cases hv : isVarB h.op = true
  · rw [numH_yes hv]
    unfold headB at hb ⊢
    have h0 := atL_nonneg (hl hv)
    have hv' : (decide (h.op = 7) || decide (h.op = 10)) = true := hv
    simp only [Bool.and_eq_true] at hb ⊢
    exact ⟨⟨hb.1.1, by simpa using h0⟩, by simp only [hv', Bool.true_or]⟩
  · rw [numH_no (by simpa using hv)]; exact hb
theorem shapes_num {l : List Int} : ∀ {f : Fo} {ss : List Nat}, inL l f.flat → f.shapes ss = true → (numF l f).shapes ss = true
  | .nil, [], _, h => h
  | .nil, _ :: _, _, h => h
  | .cons _ _ _, [], _, h => by simp [Fo.shapes] at h
  | .cons h k r, s :: ss, hf, hs => by
    have e : (Fo.cons h k r).flat = (h, k) :: (k.flat ++ r.flat) := rfl
    rw [e] at hf
    simp only [numF, Fo.shapes, numH_op] at hs ⊢
    cases hk : kidsL h.op with
    | none => rw [hk] at hs; simp at hs
    | some ks =>
      rw [hk] at hs
      simp only [Bool.and_eq_true] at hs ⊢
      exact ⟨⟨⟨hs.1.1.1, headB_num (fun hv => hf (h, k) (by simp) hv) hs.1.1.2⟩, shapes_num (fun x hx => hf x (by simp [hx])) hs.1.2⟩, shapes_num (fun x hx => hf x (by simp [hx])) hs.2⟩
theorem onceB_all (l : List (Hd × Fo)) : onceB l = true ↔ ∀ a ∈ l, ∀ b ∈ l, a.1.op = 7 → b.1.op = 10 → a.1.n ≠ b.1.n := by
  simp only [onceB, List.all_eq_true, Bool.not_eq_true', Bool.and_eq_false_iff, decide_eq_false_iff_not]
  constructor
  · intro h a ha b hb h7 h10 e
    rcases h a ha b hb with (h1 | h1) | h1
    · exact h1 h7
    · exact h1 h10
    · exact h1 e
  · intro h a ha b hb
    by_cases h7 : a.1.op = 7
    · by_cases h10 : b.1.op = 10
      · exact .inr (h a ha b hb h7 h10)
      · exact .inl (.inr h10)
    · exact .inl (.inl h7)
theorem onceB_num {l : List Int} {L : List (Hd × Fo)} (hL : inL l L) (h : onceB L = true) : onceB (L.map fun p => (numH l p.1, numF l p.2)) = true := by
  rw [onceB_all] at h ⊢
  intro a ha b hb h7 h10 e
  obtain ⟨a0, ha0, rfl⟩ := List.mem_map.1 ha
  obtain ⟨b0, hb0, rfl⟩ := List.mem_map.1 hb
  simp only [numH_op] at h7 h10 e
  have va : isVarB a0.1.op = true := by rw [h7]; rfl
  have vb : isVarB b0.1.op = true := by rw [h10]; rfl
  rw [numH_yes va, numH_yes vb] at e
  exact h a0 ha0 b0 hb0 h7 h10 (atL_inj (hL a0 ha0 va) (hL b0 hb0 vb) e)
theorem rightB_num {l : List Int} {h : Hd} {k : Fo} {s : Nat} (hL : inL l (Fo.cons h k .nil).flat) (hr : rightB h k s = true) : rightB (numH l h) (numF l k) s = true := by
  unfold rightB at hr ⊢
  rw [Bool.and_eq_true] at hr ⊢
  have e : Fo.cons (numH l h) (numF l k) .nil = numF l (Fo.cons h k .nil) := rfl
  rw [e]
  exact ⟨shapes_num hL hr.1, by rw [numF_get]; exact onceB_num hL hr.2⟩

/-- A head's Op and, of a variable, its number. -/
def pr (h : Hd) : Int × Int := (h.op, if isVarB h.op = true then h.n else 0)
theorem pr_row {h : Hd} (hop : h.op = 11) : pr h = (11, 0) := by unfold pr; rw [hop]; rfl
def prsF (f : Fo) : List (Int × Int) := f.flat.map fun x => pr x.1
def prsT (t : Hd × Fo) : List (Int × Int) := pr t.1 :: prsF t.2
theorem prsF_cons (h : Hd) (k r : Fo) : prsF (.cons h k r) = prsT (h, k) ++ prsF r := by simp [prsF, prsT, Fo.flat]
theorem prsF_nil : prsF .nil = [] := rfl
def fldPrs (x : ByteArray × Hd × Fo) : List (Int × Int) := (11, 0) :: prsT (x.2.1, x.2.2)
theorem rowT_prs (t : Hd × Fo) : ∀ l : List (ByteArray × Hd × Fo), prsT (rowT t l) = l.flatMap fldPrs ++ prsT t
  | [] => rfl
  | (nm, h, k) :: r => by
    have ih := rowT_prs t r
    rw [List.flatMap_cons, List.append_assoc, ← ih]
    show ((11, 0) : Int × Int) :: prsF _ = _
    simp only [rowT]
    rw [prsF_cons, prsF_cons, prsF_nil]
    simp [fldPrs]
theorem rowF_prs : ∀ (k : Fo) (h : Hd), sh1 h k 2 = true → prsT (h, k) = (rowF h k).1.flatMap fldPrs ++ prsT (rowF h k).2
  | .nil, h, _ => rfl
  | .cons h0 k0 .nil, h, _ => rfl
  | .cons h0 k0 (.cons h1 k1 r), h, hs => by
    by_cases hop : h.op = 11
    · rw [rowF, if_pos hop]
      obtain ⟨ks, h1', h2', h3', h4'⟩ := sh1_kids hs
      have e : ks = [1, 2] := by rw [hop] at h1'; exact (Option.some.inj h1').symm
      subst e
      rw [shapes_two, shapes_two] at h4'
      have hr := shapes_nil h4'.2.2
      subst hr
      have ih := rowF_prs k1 h1 h4'.2.1
      simp only
      rw [List.flatMap_cons, List.append_assoc, ← ih]
      show pr h :: prsF _ = _
      rw [prsF_cons, prsF_cons, prsF_nil, pr_row hop]
      simp [fldPrs]
    · rw [rowF, if_neg hop]; rfl
theorem rowS_prs {h : Hd} {k : Fo} (hs : sh1 h k 2 = true) : (prsT (rowS h k)).Perm (prsT (h, k)) := by
  unfold rowS
  rw [rowT_prs, rowF_prs k h hs]
  exact ((srt_perm _).flatMap_right fldPrs).append_right _
theorem topS_prs {h : Hd} {k : Fo} {ks : List Nat} (hk : kidsL h.op = some ks) (hs : k.shapes ks = true) : (prsF (topS h k)).Perm (prsF k) := by
  cases k with
  | nil => exact .refl _
  | cons h0 k0 r =>
    simp only [topS]
    split
    · next hop =>
      have e : ks = [2] := by
        rcases hop with h5 | h5 <;> · rw [h5] at hk; exact (Option.some.inj hk).symm
      subst e
      rw [shapes_two] at hs
      rw [prsF_cons, prsF_cons]
      exact (rowS_prs hs.1).append_right _
    · exact .refl _
theorem canL_prs : ∀ (n : Nat) (f : Fo) (ss : List Nat), f.size ≤ n → f.shapes ss = true → (prsF (canL f)).Perm (prsF f)
  | _, .nil, ss, _, hs => by rw [canL_nil]
  | 0, .cons h k r, ss, hn, hs => by simp [Fo.size] at hn
  | n + 1, .cons h k r, ss, hn, hs => by
    cases ss with
    | nil => simp [Fo.shapes] at hs
    | cons s ss =>
      rw [shapes_two] at hs
      obtain ⟨ks, h1, h2, h3, h4⟩ := sh1_kids hs.1
      simp only [Fo.size] at hn
      have := topS_size h k
      rw [canL_cons, prsF_cons, prsF_cons]
      have e1 := (canL_prs n _ ks (by omega) (topS_sh h1 h4)).trans (topS_prs h1 h4)
      exact (e1.cons (pr h)).append (canL_prs n r ss (by omega) hs.2)
theorem canT_prs {h : Hd} {k : Fo} {s : Nat} (hs : sh1 h k s = true) (h12 : s = 1 ∨ s = 2) : (prsT (canT h k)).Perm (prsT (h, k)) := by
  have h0 : sh1 (rowS h k).1 (rowS h k).2 s = true ∧ (prsT (rowS h k)).Perm (prsT (h, k)) := by
    rcases h12 with rfl | rfl
    · obtain ⟨_, _, s1, _, _⟩ := sh1_kids hs
      rw [rowS_type (type_op s1)]; exact ⟨hs, .refl _⟩
    · exact ⟨rowS_sh hs, rowS_prs hs⟩
  obtain ⟨ks, h1, h2, h3, h4⟩ := sh1_kids h0.1
  have e := (canL_prs _ _ ks (Nat.le_refl _) (topS_sh h1 h4)).trans (topS_prs h1 h4)
  exact (e.cons _).trans h0.2
theorem onceB_prs (f : Fo) : onceB f.flat = true ↔ ∀ a ∈ prsF f, ∀ b ∈ prsF f, a.1 = 7 → b.1 = 10 → a.2 ≠ b.2 := by
  rw [onceB_all]
  unfold prsF
  have e7 : ∀ h : Hd, h.op = 7 → (pr h).2 = h.n := fun h e => by unfold pr; rw [e]; rfl
  have e10 : ∀ h : Hd, h.op = 10 → (pr h).2 = h.n := fun h e => by unfold pr; rw [e]; rfl
  constructor
  · intro h a ha b hb h7 h10
    obtain ⟨a0, ha0, rfl⟩ := List.mem_map.1 ha
    obtain ⟨b0, hb0, rfl⟩ := List.mem_map.1 hb
    rw [e7 _ h7, e10 _ h10]
    exact h a0 ha0 b0 hb0 h7 h10
  · intro h a ha b hb h7 h10
    have := h _ (List.mem_map_of_mem ha) _ (List.mem_map_of_mem hb) h7 h10
    rwa [e7 _ h7, e10 _ h10] at this
theorem onceB_perm {f g : Fo} (h : (prsF f).Perm (prsF g)) : onceB f.flat = onceB g.flat := by
  rw [Bool.eq_iff_iff, onceB_prs, onceB_prs]
  exact ⟨fun H a ha b hb => H a (h.mem_iff.2 ha) b (h.mem_iff.2 hb), fun H a ha b hb => H a (h.mem_iff.1 ha) b (h.mem_iff.1 hb)⟩
theorem rightB_can {h : Hd} {k : Fo} {s : Nat} (hr : rightB h k s = true) (h12 : s = 1 ∨ s = 2) : rightB (canT h k).1 (canT h k).2 s = true := by
  have hs := sh1_right hr
  have h1 := canT_sh hs h12
  have h2 := canT_prs hs h12
  unfold rightB at hr ⊢
  rw [Bool.and_eq_true] at hr ⊢
  refine ⟨h1, ?_⟩
  rw [onceB_perm (g := .cons h k .nil)]
  · exact hr.2
  · rw [prsF_cons, prsF_cons]; exact h2.append_right _
theorem riB_can {h : Hd} {k : Fo} (hr : riB h k = true) : riB (canT h k).1 (canT h k).2 = true := by
  unfold riB at hr ⊢
  rw [Bool.or_eq_true] at hr ⊢
  exact hr.imp (fun h => rightB_can h (.inl rfl)) (fun h => rightB_can h (.inr rfl))
theorem flat_one (h : Hd) (k : Fo) : flatL [(h, k)] = (Fo.cons h k .nil).flat := flatL_one h k
theorem varsT_in (T : Hd × Fo) : inL (varsT T) (Fo.cons T.1 T.2 .nil).flat := fun x hx hv => by
  unfold varsT; rw [flat_one]; exact varsL_mem _ x hx hv
/-- Number gives a right tree, and Number of it is it. -/
theorem number_again {T : Hd × Fo} (hc : canT T.1 T.2 = T) (hr : riB T.1 T.2 = true) :
    riB (numH (varsT T) T.1) (numF (varsT T) T.2) = true ∧
    canT (numH (varsT T) T.1) (numF (varsT T) T.2) = numG (varsT T) T.1 T.2 ∧
    numG (varsT (numG (varsT T) T.1 T.2)) (numH (varsT T) T.1) (numF (varsT T) T.2) = numG (varsT T) T.1 T.2 := by
  have hin := varsT_in T
  have hin2 : inL (varsT T) T.2.flat := fun x hx => hin x (by simp [Fo.flat, hx])
  have hin1 : isVarB T.1.op = true → T.1.n ∈ varsT T := hin (T.1, T.2) (by simp [Fo.flat])
  refine ⟨?_, by rw [canT_num, hc], ?_⟩
  · unfold riB at hr ⊢
    rw [Bool.or_eq_true] at hr ⊢
    exact hr.imp (rightB_num hin) (rightB_num hin)
  · have e : varsT (numG (varsT T) T.1 T.2) = (varsT T).map (atL (varsT T)) := by
      have h1 : flatL [((numG (varsT T) T.1 T.2).1, (numG (varsT T) T.1 T.2).2)] = (flatL [(T.1, T.2)]).map fun p => (numH (varsT T) p.1, numF (varsT T) p.2) := by
        rw [flat_one, flat_one, ← numF_get]; rfl
      have h2 := (varsL_num (l := varsT T) (flatL [(T.1, T.2)]) (by rw [flat_one]; exact hin)).1
      unfold varsT at h1 h2 ⊢
      rw [h1, h2]
    rw [e]
    unfold numG
    rw [numH_twice hin1, numF_twice hin2]

/-- What puts for an Op that stands nowhere puts nothing. -/
theorem putF_none (n : Int) (H : Hd) (K : Fo) : ∀ (f : Fo) (ss : List Nat), f.shapes ss = true → Fo.putF 0 n H K f = f
  | .nil, _, _ => rfl
  | .cons h k r, [], hs => by simp [Fo.shapes] at hs
  | .cons h k r, s :: ss, hs => by
    rw [shapes_two] at hs
    obtain ⟨ks, h1, h2, h3, h4⟩ := sh1_kids hs.1
    have hop : ¬ (h.op = 0 ∧ h.n = n) := fun c => by rw [c.1] at h1; cases h1
    rw [Fo.putF, if_neg hop, putF_none n H K k ks h4, putF_none n H K r ss hs.2]
theorem putT_none (n : Int) (H : Hd) (K : Fo) {h : Hd} {k : Fo} {s : Nat} (hs : sh1 h k s = true) : putT 0 n H K h k = (h, k) := by
  obtain ⟨ks, h1, h2, h3, h4⟩ := sh1_kids hs
  have hop : ¬ (h.op = 0 ∧ h.n = n) := fun c => by rw [c.1] at h1; cases h1
  unfold putT
  rw [if_neg hop, putF_none n H K k ks h4]
end Go.Proofs.Ytmjijmkdeblefaa

/- KindsApart: what the law's walk needs beside the contracts. -/
namespace Go.Proofs.Ytmjijmkdeblefaa
open Go.RowKit LM
set_option linter.unusedVariables false

theorem putF_size (op n : Int) (H : Hd) (K : Fo) : ∀ f : Fo, (Fo.putF op n H K f).size ≤ f.size * (K.size + 1)
  | .nil => by simp [Fo.putF, Fo.size]
  | .cons h k r => by
    have h2 := putF_size op n H K r
    have h1 := putF_size op n H K k
    rw [Fo.putF]
    have e : (1 + k.size + r.size) * (K.size + 1) = (K.size + 1) + k.size * (K.size + 1) + r.size * (K.size + 1) := by rw [Nat.add_mul, Nat.add_mul, Nat.one_mul]
    split
    · simp only [Fo.size]; rw [e]; omega
    · simp only [Fo.size]; rw [e]; omega
theorem putT_size (op n : Int) (H : Hd) (K : Fo) (h : Hd) (k : Fo) : (putT op n H K h k).2.size ≤ K.size + k.size * (K.size + 1) := by
  unfold putT
  split
  · exact Nat.le_add_right _ _
  · have := putF_size op n H K k; simp only; omega
theorem putTree_size (n : Int) (H : Hd) (K : Fo) (h : Hd) (k : Fo) : (putTree n H K h k).2.size ≤ K.size + k.size * (K.size + 1) := by
  have h0 : k.size ≤ k.size * (K.size + 1) := Nat.le_mul_of_pos_right _ (by omega)
  unfold putTree
  split
  · split
    · exact putT_size _ _ _ _ _ _
    · split
      · exact putT_size _ _ _ _ _ _
      · simp only; omega
  · simp only; omega
theorem putTree_small {n : Int} {h : Hd} {k : Fo} (hm : 1 + k.size ≤ 400) : (putTree n h k h k).2.size ≤ 1099511627776 := by
  have h1 := putTree_size n h k h k
  have h2 : k.size * (k.size + 1) ≤ 400 * 400 := Nat.mul_le_mul (by omega) (by omega)
  omega

/-- What is spoiled is the call's own. -/
theorem sp_below {wB W w1 w2 : World} {F : List Nat} (hb : Below wB.heap.size wB W) (b1 : Below W.heap.size W w1) (hF : ∀ c ∈ F, W.heap.size ≤ c ∧ c < w1.heap.size) (h : SpOut F w1 w2) : Below wB.heap.size wB w2 :=
  (below_go2 hb b1).trans (h.below (fun c hc => Nat.le_trans hb.size (hF c hc).1) (Nat.le_trans hb.size b1.size))

/-- Flat's fields in their order, each with blocks of its own. -/
structure FlS (wF : World) (B : Nat) (a : Option Addr) (c : Nat) (zs : List (Fld × List Nat)) (th : Hd) (tk : Fo) (tq : Option Addr) (tc : Nat) (Ft : List Nat) : Prop where
  arr : ∀ i (hi : i < zs.length), ∃ b, a = some ⟨b, 0, none⟩ ∧ b < wF.heap.size ∧ wF.cell? ⟨b, i * 5 + 1, none⟩ = some (.int .u8 (zs[i]).1.h.op) ∧ wF.cell? ⟨b, i * 5 + 1 + 1, none⟩ = some (.string (zs[i]).1.h.name) ∧ wF.cell? ⟨b, i * 5 + 1 + 2, none⟩ = some (.int .i64 (zs[i]).1.h.n) ∧ wF.cell? ⟨b, i * 5 + 1 + 3, none⟩ = some (.slice (zs[i]).1.q (zs[i]).1.k.len (zs[i]).1.cap)
  lc : zs.length ≤ c
  len : zs.length ≤ 1099511627776
  own : ∀ i (hi : i < zs.length), OwnF wF (zs[i]).1.q (zs[i]).1.k (zs[i]).2 ∧ (zs[i]).1.k.len ≤ (zs[i]).1.cap ∧ (zs[i]).1.cap ≤ maxLen ∧ (zs[i]).1.k.size ≤ 1099511627776
  tail : OwnF wF tq tk Ft ∧ tk.len ≤ tc ∧ tc ≤ maxLen ∧ tk.size ≤ 1099511627776
  nodup : (zs.flatMap Prod.snd ++ Ft).Nodup
  lies : ∀ x ∈ zs.flatMap Prod.snd ++ Ft, B ≤ x ∧ x < wF.heap.size ∧ ∀ b, a = some ⟨b, 0, none⟩ → b ≠ x
theorem len_sum : ∀ zs : List (Fld × List Nat), zs.length ≤ (zs.map fun z => z.1.k.size + 2).sum
  | [] => Nat.le_refl _
  | z :: r => by have := len_sum r; simp only [List.length_cons, List.map_cons, List.sum_cons]; omega
theorem flatO_sorted {w : World} {h : Hd} {k : Fo} {e : Ending} {w' : World} (hsz : 1 + k.size ≤ 1099511627776) (H : FlatO w h k e w') : ∃ a c zs th tk tq tc Ft, e = .returned (.tuple #[.slice a (List.length zs) c, .agg #[.int .u8 th.op, .string th.name, .int .i64 th.n, .slice tq (Fo.len tk) tc]]) ∧ FlS w' w.heap.size a c zs th tk tq tc Ft ∧ Below w.heap.size w w' := by
  obtain ⟨v, zs0, th, tk, tq, tc, Ft, rfl, hown, hrow, hzs, ht, htl, htm, hnd, hF, hb⟩ := H
  obtain ⟨zs, hp, hm⟩ := perm_fst (insF_perm (zs0.map Prod.fst)) zs0 rfl
  have hlen : zs.length = zs0.length := hp.length_eq
  have hfp : (zs.flatMap Prod.snd).Perm (zs0.flatMap Prod.snd) := hp.flatMap_right _
  have hsum := rowF_size k h
  rw [hrow] at hsum
  simp only [List.map_map] at hsum
  have hls : ∀ z ∈ zs0, z.1.k.size + 2 ≤ k.size := fun z hz => by
    have := le_sum (List.mem_map.2 ⟨z, hz, rfl⟩ : z.1.k.size + 2 ∈ zs0.map fun z => z.1.k.size + 2)
    have e : (zs0.map ((fun x : ByteArray × Hd × Fo => x.2.2.size + 2) ∘ (fun f : Fld => (f.name, f.h, f.k)) ∘ Prod.fst)) = zs0.map fun z => z.1.k.size + 2 := rfl
    rw [e] at hsum
    omega
  have hln : zs0.length ≤ k.size := by
    have e : (zs0.map ((fun x : ByteArray × Hd × Fo => x.2.2.size + 2) ∘ (fun f : Fld => (f.name, f.h, f.k)) ∘ Prod.fst)) = zs0.map fun z => z.1.k.size + 2 := rfl
    rw [e] at hsum
    have := len_sum zs0
    omega
  rw [← hm] at hown
  have hmem : ∀ i (hi : i < zs.length), zs[i] ∈ zs0 := fun i hi => hp.mem_iff.1 (List.getElem_mem hi)
  have hnd' : (zs.flatMap Prod.snd ++ Ft).Nodup := (hfp.append_right Ft).nodup_iff.2 hnd
  have hcase : ∃ a c, v = .slice a zs.length c ∧ zs.length ≤ c ∧ (∀ i (hi : i < zs.length), ∃ b, a = some ⟨b, 0, none⟩ ∧ b < w'.heap.size ∧ w'.cell? ⟨b, i * 5 + 1, none⟩ = some (.int .u8 (zs[i]).1.h.op) ∧ w'.cell? ⟨b, i * 5 + 1 + 1, none⟩ = some (.string (zs[i]).1.h.name) ∧ w'.cell? ⟨b, i * 5 + 1 + 2, none⟩ = some (.int .i64 (zs[i]).1.h.n) ∧ w'.cell? ⟨b, i * 5 + 1 + 3, none⟩ = some (.slice (zs[i]).1.q (zs[i]).1.k.len (zs[i]).1.cap)) ∧ ∀ b, a = some ⟨b, 0, none⟩ → v.ownBlock = some b := by
    by_cases h0 : zs0.length = 0
    · rcases hown.2 with ⟨e, _⟩ | ⟨g, cap, cur, e, _⟩
      · exact ⟨none, 0, by rw [e, hlen, h0], by omega, fun i hi => absurd hi (by omega), fun b e => by cases e⟩
      · exact ⟨some ⟨g, 0, none⟩, cap, by rw [e, hlen], by omega, fun i hi => absurd hi (by omega), fun b e' => by rw [e]; cases e'; rfl⟩
    · obtain ⟨g, c, cur, hv, h1, h2, h3, h4, h5⟩ := own_some hown (by omega)
      refine ⟨some ⟨g, 0, none⟩, c, by rw [hv, hlen], by omega, fun i hi => ⟨g, rfl, (Array.getElem?_eq_some_iff.1 h2).1, ?_⟩, fun b e => by rw [hv]; cases e; rfl⟩
      have hg : ∀ j, j < 5 → (fldCells (zs.map Prod.fst))[i * 5 + j]? = (zs[i]).1.enc[j]? := fun j hj => by
        rw [fldCells_get _ _ _ hj, List.getElem?_map, List.getElem?_eq_getElem hi]; rfl
      have c1 := h5 _ _ ((hg 1 (by omega)).trans rfl)
      have c2 := h5 _ _ ((hg 2 (by omega)).trans rfl)
      have c3 := h5 _ _ ((hg 3 (by omega)).trans rfl)
      have c4 := h5 _ _ ((hg 4 (by omega)).trans rfl)
      simp only [Nat.zero_add] at c1 c2 c3 c4
      exact ⟨c1, c2, c3, c4⟩
  obtain ⟨a, c, hv, hlc, harr, hblk⟩ := hcase
  refine ⟨a, c, zs, th, tk, tq, tc, Ft, by rw [hv], ⟨harr, hlc, by omega, fun i hi => ?_, ⟨ht, htl, htm, by omega⟩, hnd', fun x hx => ?_⟩, hb⟩
  · obtain ⟨z1, z2, z3⟩ := hzs _ (hmem i hi)
    have := hls _ (hmem i hi)
    exact ⟨z1, z2, z3, by omega⟩
  · have h1 := hF x ((hfp.append_right Ft).mem_iff.1 hx)
    exact ⟨h1.1, h1.2.1, fun b e hbx => h1.2.2 (by rw [hblk b e, hbx])⟩

/-- While Flat's fields are spoiled: those from number j on are as they were, so are the slice and the tail. -/
structure FlI (wB wF : World) (a : Option Addr) (zs : List (Fld × List Nat)) (th : Hd) (tk : Fo) (tq : Option Addr) (tc : Nat) (Ft : List Nat) (Bt j : Nat) (W : World) : Prop where
  below : Below wB.heap.size wB W
  size : wF.heap.size ≤ W.heap.size
  rest : ∀ i (hi : i < zs.length), j ≤ i → ∀ x ∈ (zs[i]).2, W.heap[x]? = wF.heap[x]?
  tail : ∀ x ∈ Ft, W.heap[x]? = wF.heap[x]?
  arr : 0 < zs.length → ∀ b, a = some ⟨b, 0, none⟩ → W.heap[b]? = wF.heap[b]?
  box : RowIs W Bt #[.int .u8 th.op, .string th.name, .int .i64 th.n, .slice tq tk.len tc]
theorem nodup_fm {zs : List (Fld × List Nat)} {Ft : List Nat} (h : (zs.flatMap Prod.snd ++ Ft).Nodup) {i j : Nat} (hi : i < zs.length) (hj : j < zs.length) (hne : i ≠ j) : ∀ x ∈ (zs[i]).2, x ∉ (zs[j]).2 := by
  have h1 := (List.nodup_append.1 h).1
  clear h
  induction zs generalizing i j with
  | nil => simp at hi
  | cons z r ih =>
    rw [List.flatMap_cons] at h1
    obtain ⟨n1, n2, n3⟩ := List.nodup_append.1 h1
    intro x hx hx2
    cases i with
    | zero =>
      cases j with
      | zero => exact hne rfl
      | succ j =>
        simp only [List.getElem_cons_zero, List.getElem_cons_succ] at hx hx2
        exact n3 x hx x (List.mem_flatMap.2 ⟨_, List.getElem_mem (by simpa using hj), hx2⟩) rfl
    | succ i =>
      cases j with
      | zero =>
        simp only [List.getElem_cons_zero, List.getElem_cons_succ] at hx hx2
        exact n3 x hx2 x (List.mem_flatMap.2 ⟨_, List.getElem_mem (by simpa using hi), hx⟩) rfl
      | succ j =>
        simp only [List.getElem_cons_succ] at hx hx2
        exact ih (by simpa using hi) (by simpa using hj) (by omega) n2 x hx hx2
theorem mem_fm {zs : List (Fld × List Nat)} {i : Nat} (hi : i < zs.length) {x : Nat} (hx : x ∈ (zs[i]).2) : x ∈ zs.flatMap Prod.snd := List.mem_flatMap.2 ⟨_, List.getElem_mem hi, hx⟩
theorem nodup_one {zs : List (Fld × List Nat)} : (zs.flatMap Prod.snd).Nodup → ∀ i (hi : i < zs.length), (zs[i]).2.Nodup := by
  induction zs with
  | nil => intro _ i hi; simp at hi
  | cons z r ih =>
    intro h i hi
    rw [List.flatMap_cons] at h
    obtain ⟨n1, n2, n3⟩ := List.nodup_append.1 h
    cases i with
    | zero => exact n1
    | succ i => exact ih n2 i (by simpa using hi)
theorem FlI.go {wB wF : World} {B : Nat} {a : Option Addr} {c : Nat} {zs : List (Fld × List Nat)} {th : Hd} {tk : Fo} {tq : Option Addr} {tc : Nat} {Ft : List Nat} {Bt j : Nat} {W W' : World} (hs : FlS wF B a c zs th tk tq tc Ft) (hI : FlI wB wF a zs th tk tq tc Ft Bt j W) (hj : j < zs.length) (hB : wB.heap.size ≤ B) (hBt : wF.heap.size ≤ Bt)
    (h : SpOut (zs[j]).2 W W') : FlI wB wF a zs th tk tq tc Ft Bt (j + 1) W' := by
  have hl : ∀ x ∈ (zs[j]).2, B ≤ x ∧ x < wF.heap.size ∧ ∀ b, a = some ⟨b, 0, none⟩ → b ≠ x := fun x hx => hs.lies x (List.mem_append_left _ (mem_fm hj hx))
  have hz := hI.size
  refine ⟨hI.below.trans (h.below (fun x hx => Nat.le_trans hB (hl x hx).1) hI.below.size), Nat.le_trans hz h.size, fun i hi hji x hx => ?_, fun x hx => ?_, fun h0 b hb => ?_, ?_⟩
  · have hx1 := (hs.lies x (List.mem_append_left _ (mem_fm hi hx))).2.1
    exact (h.keep x (by omega) (nodup_fm hs.nodup hi hj (by omega) x hx)).trans (hI.rest i hi (by omega) x hx)
  · have hx1 := (hs.lies x (List.mem_append_right _ hx)).2.1
    exact (h.keep x (by omega) (fun hc => (List.nodup_append.1 hs.nodup).2.2 x (mem_fm hj hc) x hx rfl)).trans (hI.tail x hx)
  · obtain ⟨b', e, hlt, _⟩ := hs.arr j hj
    rw [hb] at e
    have eb : b = b' := congrArg Addr.block (Option.some.inj e)
    subst eb
    exact (h.keep b (by omega) (fun hc => (hl b hc).2.2 b hb rfl)).trans (hI.arr h0 b hb)
  · exact (h.keep Bt hI.box.lt (fun hc => by have := (hl Bt hc).2.1; omega)).trans hI.box
end Go.Proofs.Ytmjijmkdeblefaa

/- KindsApart: the law's walk. -/
namespace Go.Proofs.Ytmjijmkdeblefaa
open Go.RowKit LM
set_option linter.unusedVariables false

/-- A tree of the call's own, and what stood stands. -/
def CopB (wB W : World) (T : Hd × Fo) (e : Ending) (w' : World) : Prop := CopPost W T.1 T.2 e w' ∧ Below wB.heap.size wB w'
theorem cop_b {wB W w' : World} {T : Hd × Fo} {e : Ending} (hb : Below wB.heap.size wB W) (h : CopPost W T.1 T.2 e w') : CopB wB W T e w' := by
  obtain ⟨q, c, F, h1, h2, h3, h4, h5, h6, h7⟩ := h
  exact ⟨⟨q, c, F, h1, h2, h3, h4, h5, h6, h7⟩, below_go2 hb h7⟩
/-- Yes, and what stood stands. -/
def YesB (wB : World) (e : Ending) (w' : World) : Prop := e = .returned (.bool true) ∧ Below wB.heap.size wB w'
def FlP (W : World) (e : Ending) (w' : World) : Prop := ∃ a c zs th tk tq tc Ft, e = .returned (.tuple #[.slice a (List.length zs) c, .agg #[.int .u8 th.op, .string th.name, .int .i64 th.n, .slice tq (Fo.len tk) tc]]) ∧ FlS w' W.heap.size a c zs th tk tq tc Ft ∧ Below W.heap.size W w'

/-- What the law's calls do, by what they are called with. -/
structure ApC (w : World) (h : Hd) (k : Fo) (q : Option Addr) (cap : Nat) (T N P R : Hd × Fo) : Prop where
  same : ∀ W, Below w.heap.size w W → ∀ q3 c3, SlF W q3 c3 T.2 → Calls Try.prog 19 #[.agg #[.int .u8 h.op, .string h.name, .int .i64 h.n, .slice q k.len cap], .agg #[.int .u8 T.1.op, .string T.1.name, .int .i64 T.1.n, .slice q3 T.2.len c3]] W (YesB W)
  can : ∀ W, Below w.heap.size w W → Calls Try.prog 11 #[.agg #[.int .u8 h.op, .string h.name, .int .i64 h.n, .slice q k.len cap]] W (CopPost W T.1 T.2)
  can2 : ∀ W q3 c3, SlF W q3 c3 T.2 → Calls Try.prog 11 #[.agg #[.int .u8 T.1.op, .string T.1.name, .int .i64 T.1.n, .slice q3 T.2.len c3]] W (CopPost W T.1 T.2)
  alike : ∀ W q3 c3 q4 c4, SlF W q3 c3 T.2 → SlF W q4 c4 T.2 → Calls Try.prog 16 #[.agg #[.int .u8 T.1.op, .string T.1.name, .int .i64 T.1.n, .slice q3 T.2.len c3], .agg #[.int .u8 T.1.op, .string T.1.name, .int .i64 T.1.n, .slice q4 T.2.len c4]] W (YesB W)
  num : ∀ W, Below w.heap.size w W → Calls Try.prog 12 #[.agg #[.int .u8 h.op, .string h.name, .int .i64 h.n, .slice q k.len cap]] W (CopPost W N.1 N.2)
  num2 : ∀ W q3 c3, SlF W q3 c3 N.2 → Calls Try.prog 12 #[.agg #[.int .u8 N.1.op, .string N.1.name, .int .i64 N.1.n, .slice q3 N.2.len c3]] W (CopPost W N.1 N.2)
  alikeN : ∀ W q3 c3 q4 c4, SlF W q3 c3 N.2 → SlF W q4 c4 N.2 → Calls Try.prog 16 #[.agg #[.int .u8 N.1.op, .string N.1.name, .int .i64 N.1.n, .slice q3 N.2.len c3], .agg #[.int .u8 N.1.op, .string N.1.name, .int .i64 N.1.n, .slice q4 N.2.len c4]] W (YesB W)
  put : ∀ W, Below w.heap.size w W → Calls Try.prog 28 #[.agg #[.int .u8 h.op, .string h.name, .int .i64 h.n, .slice q k.len cap], .int .i64 0, .agg #[.int .u8 h.op, .string h.name, .int .i64 h.n, .slice q k.len cap]] W (CopPost W P.1 P.2)
  recc : ∀ W, Below w.heap.size w W → Calls Try.prog 29 #[.agg #[.int .u8 h.op, .string h.name, .int .i64 h.n, .slice q k.len cap]] W (CopPost W R.1 R.2)
  flat : ∀ W, Below w.heap.size w W → Calls Try.prog 30 #[.agg #[.int .u8 h.op, .string h.name, .int .i64 h.n, .slice q k.len cap]] W (FlP W)
  was : ∀ W, Below w.heap.size w W → Calls Try.prog 26 #[.agg #[.int .u8 h.op, .string h.name, .int .i64 h.n, .slice q k.len cap], .int .u8 0, .int .i64 0, .agg #[.int .u8 h.op, .string h.name, .int .i64 h.n, .slice q k.len cap]] W (RpPost W q cap k h k)
  last : ∀ W, Below w.heap.size w W → ∀ q3 c3, SlF W q3 c3 k → Calls Try.prog 16 #[.agg #[.int .u8 h.op, .string h.name, .int .i64 h.n, .slice q k.len cap], .agg #[.int .u8 h.op, .string h.name, .int .i64 h.n, .slice q3 k.len c3]] W (YesB W)
  sl : SlF w q cap k
  zT : T.2.size ≤ 1099511627776
  zN : N.2.size ≤ 1099511627776
  zP : P.2.size ≤ 1099511627776
  zR : R.2.size ≤ 1099511627776

theorem apC {w : World} {h : Hd} {k : Fo} {q : Option Addr} {cap : Nat} (ht : TyIs w h k q cap) (hr : riB h k = true) (hm : 1 + k.size ≤ 400) :
    ∃ T N P R, ApC w h k q cap T N P R := by
  obtain ⟨hh, hk, hsl, hsz⟩ := ht
  have hr' : rightB h k 1 = true ∨ rightB h k 2 = true := by unfold riB at hr; simpa using hr
  obtain ⟨s, h12, hsh⟩ : ∃ s, (s = 1 ∨ s = 2) ∧ sh1 h k s = true := hr'.elim (fun h => ⟨1, .inl rfl, sh1_right h⟩) (fun h => ⟨2, .inr rfl, sh1_right h⟩)
  have hTk := canT_ok hh hk
  have hTz := canT_size h k
  have hTc : canT (canT h k).1 (canT h k).2 = canT h k := canT_idem (k.size + 1) h k s (by omega) hsh h12
  have hTr := riB_can hr
  obtain ⟨hNr, hNc, hNn⟩ := number_again hTc hTr
  have hvl : (varsT (canT h k)).length ≤ 1099511627776 := by
    unfold varsT
    have := varsL_len (flatL [((canT h k).1, (canT h k).2)])
    rw [length_one] at this
    omega
  have hNk := num_ok hTk hvl
  have hNz : (numF (varsT (canT h k)) (canT h k).2).size = (canT h k).2.size := numF_size _ _
  refine ⟨canT h k, numG (varsT (canT h k)) (canT h k).1 (canT h k).2, putTree 0 h k h k, (⟨5, ⟨#[]⟩, 0⟩, .cons h k .nil), ?_⟩
  refine { same := fun W hb q3 c3 hs => ?_, can := fun W hb => ?_, can2 := fun W q3 c3 hs => ?_, alike := fun W q3 c3 q4 c4 hs hs' => ?_, num := fun W hb => ?_, num2 := fun W q3 c3 hs => ?_, alikeN := fun W q3 c3 q4 c4 hs hs' => ?_, put := fun W hb => ?_, recc := fun W hb => ?_, flat := fun W hb => ?_, was := fun W hb => ?_, last := fun W hb q3 c3 hs => ?_, sl := hsl, zT := by omega, zN := ?_, zP := putTree_small hm, zR := ?_ }
  · have := Same_yes h k q cap (canT h k).1 (canT h k).2 q3 c3 W hh (hsl.below hb) hk hsz hTk.1 hs hTk.2 (by omega) hr hTr
    rw [hTc, alk_self] at this
    exact this
  · exact Canon_own h k q cap W hh (hsl.below hb) hk hsz hr
  · have := Canon_own (canT h k).1 (canT h k).2 q3 c3 W hTk.1 hs hTk.2 (by omega) hTr
    rw [hTc] at this
    exact this
  · have := Alike_any ((canT h k).2.size + 1) (canT h k).1 (canT h k).1 (canT h k).2 (canT h k).2 q3 q4 c3 c4 W (by omega) hTk.1 hTk.1 hTk.2 hTk.2 hs hs'
    rw [alk_self] at this
    exact this
  · exact Number_yes h k q cap W hh (hsl.below hb) hk hsz hr
  · have := Number_yes (numG (varsT (canT h k)) (canT h k).1 (canT h k).2).1 (numG (varsT (canT h k)) (canT h k).1 (canT h k).2).2 q3 c3 W hNk.1 hs hNk.2 (by rw [show (numG (varsT (canT h k)) (canT h k).1 (canT h k).2).2.size = _ from hNz]; omega) hNr
    have e1 : canT (numG (varsT (canT h k)) (canT h k).1 (canT h k).2).1 (numG (varsT (canT h k)) (canT h k).1 (canT h k).2).2 = numG (varsT (canT h k)) (canT h k).1 (canT h k).2 := hNc
    rw [e1] at this
    have e2 : (numH (varsT (numG (varsT (canT h k)) (canT h k).1 (canT h k).2)) (numG (varsT (canT h k)) (canT h k).1 (canT h k).2).1, numF (varsT (numG (varsT (canT h k)) (canT h k).1 (canT h k).2)) (numG (varsT (canT h k)) (canT h k).1 (canT h k).2).2) = numG (varsT (canT h k)) (canT h k).1 (canT h k).2 := hNn
    rw [show numH (varsT (numG (varsT (canT h k)) (canT h k).1 (canT h k).2)) (numG (varsT (canT h k)) (canT h k).1 (canT h k).2).1 = (numG (varsT (canT h k)) (canT h k).1 (canT h k).2).1 from congrArg Prod.fst e2,
      show numF (varsT (numG (varsT (canT h k)) (canT h k).1 (canT h k).2)) (numG (varsT (canT h k)) (canT h k).1 (canT h k).2).2 = (numG (varsT (canT h k)) (canT h k).1 (canT h k).2).2 from congrArg Prod.snd e2] at this
    exact this
  · have := Alike_any ((numG (varsT (canT h k)) (canT h k).1 (canT h k).2).2.size + 1) (numG (varsT (canT h k)) (canT h k).1 (canT h k).2).1 (numG (varsT (canT h k)) (canT h k).1 (canT h k).2).1 (numG (varsT (canT h k)) (canT h k).1 (canT h k).2).2 (numG (varsT (canT h k)) (canT h k).1 (canT h k).2).2 q3 q4 c3 c4 W (by omega) hNk.1 hNk.1 hNk.2 hNk.2 hs hs'
    rw [alk_self] at this
    exact this
  · exact Put_ownR h k q cap 0 h k q cap W hh (hsl.below hb) hk hsz hh (hsl.below hb) hk hsz hr hr
  · exact Rec_own h k q cap W hh (hsl.below hb) hk (by omega)
  · by_cases h2 : rightB h k 2 = true
    · exact (Flat_own h k q cap W hh (hsl.below hb) hk hsz h2).mono fun e w' H => flatO_sorted hsz H
    · refine (Flat_no h k q cap W hh (hsl.below hb) hk hsz (by simpa using h2)).mono ?_
      rintro e w' ⟨he, hb'⟩
      exact ⟨none, 0, [], ⟨0, ⟨#[]⟩, 0⟩, .nil, none, 0, [], he, ⟨fun i hi => by simp at hi, Nat.le_refl _, by simp, fun i hi => by simp at hi, ⟨.inl ⟨rfl, rfl⟩, Nat.le_refl _, Nat.zero_le _, by simp [Fo.size]⟩, by simp, fun x hx => by simp at hx⟩, hb'⟩
  · have := refPut_any 0 0 h k q cap (k.size + 1) h k q cap W (by omega) hsz (hsl.below hb) (hsl.below hb)
    rw [putT_none 0 h k hsh] at this
    exact this
  · have := Alike_any (k.size + 1) h h k k q q3 cap c3 W (by omega) hh hh hk hk (hsl.below hb) hs
    rw [alk_self] at this
    exact this
  · rw [show (numG (varsT (canT h k)) (canT h k).1 (canT h k).2).2.size = _ from hNz]; omega
  · simp [Fo.size]; omega
end Go.Proofs.Ytmjijmkdeblefaa

/- KindsApart: the law's walk. -/
namespace Go.Proofs.Ytmjijmkdeblefaa
open Go.RowKit LM
set_option linter.unusedVariables false

set_option maxRecDepth 100000 in
set_option maxHeartbeats 40000000 in
theorem law_apart (h : Hd) (k : Fo) (q : Option Addr) (cap : Nat) (w : World) (ht : TyIs w h k q cap) :
    Calls Try.prog 5 #[.agg #[.int .u8 h.op, .string h.name, .int .i64 h.n, .slice q k.len cap]] w fun e w' => e = .returned (.bool true) ∧ Below w.heap.size w w' := by
  have HC : Hid (riB h k = true → 1 + k.size ≤ 400 → ∃ T N P R, ApC w h k q cap T N P R) := Lib.hid fun hr hm => apC ht hr hm
  obtain ⟨hh, hk, hsl, hsz⟩ := ht
  have HM := Lib.hid fun w' (hb : Below w.heap.size w w') => many_any h k q cap w' hsz (hsl.below hb)
  have HR := Lib.hid fun w' (hb : Below w.heap.size w w') => refRight_any h k q cap w' hh hk hsz (hsl.below hb)
  have HW := Lib.hid fun w' (hb : Below w.heap.size w w') => refRow_any h k q cap w' hh hk hsz (hsl.below hb)
  have HAL := Lib.hid kalive_any
  have HX0 := Lib.hid (World.alloc_heap_new w (.cells #[.int .u8 h.op, .string h.name, .int .i64 h.n, .slice q k.len cap] 25))
  unfold riB at HC
  clear hh hk hsl hsz
  generalize rightB h k 1 = r1 at *
  generalize rightB h k 2 = r2 at *
  generalize hn : decide (400 < 1 + k.size) = n1 at *
  have HN := Lib.hid hn
  clear hn
  go_enter Try.func5, Try.ntmps5
  go_wp2_with fail
  refine (HAL.out _).mono ?_
  rintro e w1 ⟨rfl, hb1⟩
  have hx1 := (hb1.block _ (by simp)).trans HX0.out
  obtain ⟨x0, x1, x2, x3, _⟩ := row4 hx1
  have HB1 := Lib.hid (below_then (below_box _ _) hb1)
  have HX1 := Lib.hid hx1
  clear hb1 hx1
  go_wp2_with fail
  refine (HM.out _ HB1.out).mono ?_
  rintro e w2 ⟨rfl, hb2⟩
  have hx2 := (hb2.block _ (Array.getElem?_eq_some_iff.1 HX1.out).1).trans HX1.out
  have HB2 := Lib.hid (below_then HB1.out hb2)
  have HX2 := Lib.hid hx2
  clear hb2 x0 x1 x2 x3 HX1 HB1
  obtain ⟨x0, x1, x2, x3, _⟩ := row4 hx2
  clear hx2
  cases n1
  case true =>
    go_wp2
    go_ret
    exact ⟨rfl, HB2.out⟩
  case false =>
    obtain ⟨rfl, rfl⟩ | hrr : (r1 = false ∧ r2 = false) ∨ (r1 = true ∨ (r1 = false ∧ r2 = true)) := by cases r1 <;> cases r2 <;> simp
    · go_wp2_with (first
        | (go_at_call 14; refine (HR.out _ HB2.out).mono ?_; rintro e w3 ⟨rfl, hb3⟩; have hx3 := (hb3.block _ (Array.getElem?_eq_some_iff.1 HX2.out).1).trans HX2.out; have HB3 := Lib.hid (below_then HB2.out hb3); clear hb3 x0 x1 x2 x3; obtain ⟨x0, x1, x2, x3, _⟩ := row4 hx3; clear hx3)
        | (go_at_call 15; refine (HW.out _ HB3.out).mono ?_; rintro e w4 ⟨rfl, hb4⟩; have HB4 := Lib.hid (below_then HB3.out hb4); clear hb4))
      go_ret
      exact ⟨rfl, HB4.out⟩
    all_goals (try (rcases hrr with rfl | ⟨rfl, rfl⟩))
    all_goals
      obtain ⟨T, N, P, R, hA⟩ := HC.out rfl (by have := HN.out; simp at this; omega)
      have HA := Lib.hid hA
      clear hA
      go_wp2_with (first
        | (go_at_call 14; refine (HR.out _ HB2.out).mono ?_; rintro e w3 ⟨rfl, hb3⟩; have hx3 := (hb3.block _ (Array.getElem?_eq_some_iff.1 HX2.out).1).trans HX2.out; have HB3 := Lib.hid (below_then HB2.out hb3); clear hb3 x0 x1 x2 x3; have HX3 := Lib.hid hx3; obtain ⟨x0, x1, x2, x3, _⟩ := row4 hx3; clear hx3)
        | (go_at_call 15; refine (HW.out _ HB3.out).mono ?_; rintro e w4 ⟨rfl, hb4⟩; have hx4 := (hb4.block _ (Array.getElem?_eq_some_iff.1 HX3.out).1).trans HX3.out; have HB3 := Lib.hid (below_then HB3.out hb4); clear hb4 x0 x1 x2 x3; have HX3 := Lib.hid hx4; obtain ⟨x0, x1, x2, x3, _⟩ := row4 hx4; clear hx4))
      refine (HA.out.was _ HB3.out).mono ?_
      rintro e w5 ⟨qw, cw, rfl, hsw, hb5⟩
      have hx5 := (hb5.block _ (Array.getElem?_eq_some_iff.1 HX3.out).1).trans HX3.out
      have HB5 := Lib.hid (below_then HB3.out hb5)
      have HSW := Lib.hid fun W (hb : Below w5.heap.size w5 W) => hsw W (fun b _ h => hb.block b h) (HA.out.sl.below (HB5.out.trans (hb.mono HB5.out.size)))
      have HX5 := Lib.hid hx5
      have hl5 := (Array.getElem?_eq_some_iff.1 HX5.out).1
      have hbB := below_box w5 (.cells #[.int .u8 h.op, .string h.name, .int .i64 h.n, .slice qw k.len cw] 25)
      have hzB : (w5.alloc (.cells #[.int .u8 h.op, .string h.name, .int .i64 h.n, .slice qw k.len cw] 25)).heap.size = w5.heap.size + 1 := by simp
      have hxB := (hbB.block _ hl5).trans HX5.out
      have HXW := Lib.hid (World.alloc_heap_new w5 (.cells #[.int .u8 h.op, .string h.name, .int .i64 h.n, .slice qw k.len cw] 25))
      have HBB := Lib.hid (below_then HB5.out hbB)
      have HSB := Lib.hid (HSW.out _ hbB)
      have HXB := Lib.hid hxB
      clear hb5 hsw x0 x1 x2 x3 hx5 hbB hl5
      obtain ⟨x0, x1, x2, x3, _⟩ := row4 hxB
      clear hxB
      go_wp2_with fail
      generalize w5.alloc (.cells #[.int .u8 h.op, .string h.name, .int .i64 h.n, .slice qw k.len cw] 25) = wB at *
      refine (HA.out.can _ HBB.out).mono ?_
      rintro e w6 ⟨q3, c3, F3, rfl, l3, m3, o3, n3, f3, b6⟩
      have hl6 : w.heap.size < w6.heap.size := Nat.lt_of_lt_of_le (Array.getElem?_eq_some_iff.1 HXB.out).1 b6.size
      have hbC := below_box w6 (.cells #[.int .u8 T.1.op, .string T.1.name, .int .i64 T.1.n, .slice q3 T.2.len c3] 25)
      have hzC : (w6.alloc (.cells #[.int .u8 T.1.op, .string T.1.name, .int .i64 T.1.n, .slice q3 T.2.len c3] 25)).heap.size = w6.heap.size + 1 := by simp
      have hxC := (hbC.block _ hl6).trans ((b6.block _ (Array.getElem?_eq_some_iff.1 HXB.out).1).trans HXB.out)
      have hyC := World.alloc_heap_new w6 (.cells #[.int .u8 T.1.op, .string T.1.name, .int .i64 T.1.n, .slice q3 T.2.len c3] 25)
      have HBC := Lib.hid (below_then b6 hbC)
      have HO3 := Lib.hid (o3.keep (w' := w6.alloc (.cells #[.int .u8 T.1.op, .string T.1.name, .int .i64 T.1.n, .slice q3 T.2.len c3] 25)) (fun c hc => hbC.block c (f3 c hc).2))
      have HF3 := Lib.hid f3
      have HXC := Lib.hid hxC
      have HYC := Lib.hid hyC
      have HN3 := Lib.hid n3
      clear b6 o3 f3 n3 x0 x1 x2 x3 hl6
      obtain ⟨x0, x1, x2, x3, _⟩ := row4 hxC
      obtain ⟨y0, y1, y2, y3, _⟩ := row4 hyC
      clear hxC hyC hbC
      go_wp2_with fail
      generalize w6.alloc (.cells #[.int .u8 T.1.op, .string T.1.name, .int .i64 T.1.n, .slice q3 T.2.len c3] 25) = wC at *
      have HWC := Lib.hid (below_then HBB.out HBC.out)
      have HSC := Lib.hid fun W (hb : Below wC.heap.size wC W) => (HO3.out.slF l3 m3).below hb
      have HJ : Hid (∀ w', Below wC.heap.size wC w' → Below wC.heap.size wC w' ∧ w'.cell? ⟨w.heap.size, 0, none⟩ = some (.int .u8 h.op) ∧ w'.cell? ⟨w.heap.size, 1, none⟩ = some (.string h.name) ∧ w'.cell? ⟨w.heap.size, 2, none⟩ = some (.int .i64 h.n) ∧ w'.cell? ⟨w.heap.size, 3, none⟩ = some (.slice q k.len cap) ∧
          w'.cell? ⟨w6.heap.size, 0, none⟩ = some (.int .u8 T.1.op) ∧ w'.cell? ⟨w6.heap.size, 1, none⟩ = some (.string T.1.name) ∧ w'.cell? ⟨w6.heap.size, 2, none⟩ = some (.int .i64 T.1.n) ∧ w'.cell? ⟨w6.heap.size, 3, none⟩ = some (.slice q3 T.2.len c3)) := Lib.hid fun w' hb => by
        obtain ⟨z0, z1, z2, z3, _⟩ := row4 ((hb.block _ (Array.getElem?_eq_some_iff.1 HXC.out).1).trans HXC.out)
        obtain ⟨u0, u1, u2, u3, _⟩ := row4 ((hb.block _ (Array.getElem?_eq_some_iff.1 HYC.out).1).trans HYC.out)
        exact ⟨hb, z0, z1, z2, z3, u0, u1, u2, u3⟩
      have G1 := Lib.hid fun W (hb : Below wC.heap.size wC W) => (HA.out.same W (below_go2 HWC.out hb) q3 c3 (HSC.out W hb)).mono fun e w2 hh => (And.intro hh.1 (below_go2 hb hh.2) : YesB wC e w2)
      have G2 := Lib.hid fun W (hb : Below wC.heap.size wC W) => (HA.out.can2 W q3 c3 (HSC.out W hb)).mono fun e w2 hh => cop_b hb hh
      have G3 := Lib.hid fun q4 c4 W (hb : Below wC.heap.size wC W) (hs : SlF W q4 c4 T.2) => (HA.out.alike W q4 c4 q3 c3 hs (HSC.out W hb)).mono fun e w2 hh => (And.intro hh.1 (below_go2 hb hh.2) : YesB wC e w2)
      have G4 := Lib.hid fun W (hb : Below wC.heap.size wC W) => (HA.out.num W (below_go2 HWC.out hb)).mono fun e w2 hh => cop_b hb hh
      have G5 := Lib.hid fun q4 c4 W (hb : Below wC.heap.size wC W) (hs : SlF W q4 c4 N.2) => (HA.out.num2 W q4 c4 hs).mono fun e w2 hh => cop_b hb hh
      have G6 := Lib.hid fun q4 c4 q5 c5 W (hb : Below wC.heap.size wC W) (hs : SlF W q4 c4 N.2) (hs' : SlF W q5 c5 N.2) => (HA.out.alikeN W q4 c4 q5 c5 hs hs').mono fun e w2 hh => (And.intro hh.1 (below_go2 hb hh.2) : YesB wC e w2)
      go_region_held3 (fun w' => Below wC.heap.size wC w' ∧ w'.cell? ⟨w.heap.size, 0, none⟩ = some (.int .u8 h.op) ∧ w'.cell? ⟨w.heap.size, 1, none⟩ = some (.string h.name) ∧ w'.cell? ⟨w.heap.size, 2, none⟩ = some (.int .i64 h.n) ∧ w'.cell? ⟨w.heap.size, 3, none⟩ = some (.slice q k.len cap) ∧
          w'.cell? ⟨w6.heap.size, 0, none⟩ = some (.int .u8 T.1.op) ∧ w'.cell? ⟨w6.heap.size, 1, none⟩ = some (.string T.1.name) ∧ w'.cell? ⟨w6.heap.size, 2, none⟩ = some (.int .i64 T.1.n) ∧ w'.cell? ⟨w6.heap.size, 3, none⟩ = some (.slice q3 T.2.len c3)) ((refine HJ.out _ ?_; (first | (with_reducible assumption) | (go_split_ands; with_reducible assumption) | (repeat' (first | (with_reducible assumption) | (with_reducible exact Below.refl _ _) | (with_reducible refine Below.drew ?_)))))) (first
        | (go_at_call 19; (with_reducible refine (G1.out _ ?_).mono ?_); (first | (with_reducible assumption) | (go_split_ands; with_reducible assumption) | (repeat' (first | (with_reducible assumption) | (with_reducible exact Below.refl _ _) | (with_reducible refine Below.drew ?_)))); rintro e wS ⟨rfl, rS⟩)
        | (go_at_call 11; (with_reducible refine (G2.out _ ?_).mono ?_); (first | (with_reducible assumption) | (go_split_ands; with_reducible assumption) | (repeat' (first | (with_reducible assumption) | (with_reducible exact Below.refl _ _) | (with_reducible refine Below.drew ?_)))); rintro e w7 ⟨⟨q7, c7, F7, rfl, l7, m7, o7, n7, f7, b7⟩, r7⟩; have s7 := o7.slF l7 m7)
        | (go_at_call 16; (with_reducible refine (G3.out _ _ _ ?_ ?_).mono ?_); (first | (with_reducible assumption) | (go_split_ands; with_reducible assumption) | (repeat' (first | (with_reducible assumption) | (with_reducible exact Below.refl _ _) | (with_reducible refine Below.drew ?_)))); exact s7; rintro e wA ⟨rfl, rA⟩)
        | (go_at_call 12; (with_reducible refine (G5.out _ _ _ ?_ ?_).mono ?_); (first | (with_reducible assumption) | (go_split_ands; with_reducible assumption) | (repeat' (first | (with_reducible assumption) | (with_reducible exact Below.refl _ _) | (with_reducible refine Below.drew ?_)))); exact s8; rintro e w9 ⟨⟨q9, c9, F9, rfl, l9, m9, o9, n9, f9, b9⟩, r9⟩; have s9 := o9.slF l9 m9)
        | (go_at_call 12; (with_reducible refine (G4.out _ ?_).mono ?_); (first | (with_reducible assumption) | (go_split_ands; with_reducible assumption) | (repeat' (first | (with_reducible assumption) | (with_reducible exact Below.refl _ _) | (with_reducible refine Below.drew ?_)))); (first
            | (have s9' := s9; rintro e w10 ⟨⟨q10, c10, F10, rfl, l10, m10, o10, n10, f10, b10⟩, r10⟩; have s10 := o10.slF l10 m10; have t9 := (o9.keep (w' := w10) (fun c hc => b10.block c (f9 c hc).2)).slF l9 m9)
            | (rintro e w8 ⟨⟨q8, c8, F8, rfl, l8, m8, o8, n8, f8, b8⟩, r8⟩; have s8 := o8.slF l8 m8)))
        | (go_at_call 16; (with_reducible refine (G6.out _ _ _ _ _ ?_ ?_ ?_).mono ?_); (first | (with_reducible assumption) | (go_split_ands; with_reducible assumption) | (repeat' (first | (with_reducible assumption) | (with_reducible exact Below.refl _ _) | (with_reducible refine Below.drew ?_)))); exact t9; exact s10; rintro e wZ ⟨rfl, rZ⟩))
      rename_i hH
      have HT : Hid (∀ W, Below wB.heap.size wB W → W.cell? ⟨w.heap.size, 0, none⟩ = some (.int .u8 h.op) ∧ W.cell? ⟨w.heap.size, 1, none⟩ = some (.string h.name) ∧ W.cell? ⟨w.heap.size, 2, none⟩ = some (.int .i64 h.n) ∧ W.cell? ⟨w.heap.size, 3, none⟩ = some (.slice q k.len cap)) := Lib.hid fun W hb => by
        obtain ⟨z0, z1, z2, z3, _⟩ := row4 ((hb.block _ (Array.getElem?_eq_some_iff.1 HXB.out).1).trans HXB.out)
        exact ⟨z0, z1, z2, z3⟩
      have HZC := Lib.hid hzC
      have HRZ := Lib.hid rZ
      obtain ⟨_, x0', x1', x2', x3', y0', y1', y2', y3'⟩ := hH
      clear HJ G1 G2 G3 G4 G5 G6 HSC rS r7 s7 rA r8 s8 r9 s9 r10 s10 t9 o7 n7 f7 b7 l7 m7 o8 n8 f8 b8 l8 m8 o9 n9 f9 b9 l9 m9 o10 n10 f10 b10 l10 m10 x0 x1 x2 x3 y0 y1 y2 y3 rZ hzC hzB
      clear x0' x1' x2' x3'
      go_wp2_with fail
      refine (spoil_any (T.2.size + 1) T.1 T.2 q3 c3 wZ F3 (by omega) (HO3.out.keep fun c hc => HRZ.out.block c (by have := (HF3.out c hc).2; have := HZC.out; omega)) HN3.out (fun c hc => by have := (HF3.out c hc).2; have := HZC.out; have := HRZ.out.size; omega) l3 m3 HA.out.zT).mono ?_
      rintro e wE ⟨rfl, hE⟩
      have HE := Lib.hid ((below_go2 HBC.out HRZ.out).trans (hE.below (fun c hc => (HF3.out c hc).1) (Nat.le_trans HBC.out.size HRZ.out.size)))
      clear hE y0' y1' y2' y3'
      obtain ⟨x0, x1, x2, x3⟩ := HT.out _ HE.out
      go_wp2_with fail
      refine (HA.out.num _ (below_go2 HBB.out HE.out)).mono ?_
      rintro e wF ⟨qn, cn, Fn, rfl, ln, mn, on, nn, fn, bn⟩
      have HS := Lib.hid (spoil_any (N.2.size + 1) N.1 N.2 qn cn wF Fn (by omega) on nn (fun c hc => (fn c hc).2) ln mn HA.out.zN)
      have HSB1 := Lib.hid fun wG hG => sp_below (w2 := wG) HE.out bn fn hG
      clear x0 x1 x2 x3 on nn fn bn ln mn
      go_wp2_with fail
      refine HS.out.mono ?_
      rintro e wG ⟨rfl, hG⟩
      have HG := Lib.hid (HSB1.out _ hG)
      clear hG HS HSB1
      obtain ⟨x0, x1, x2, x3⟩ := HT.out _ HG.out
      go_wp2_with fail
      refine (HA.out.put _ (below_go2 HBB.out HG.out)).mono ?_
      rintro e wH ⟨qn, cn, Fn, rfl, ln, mn, on, nn, fn, bn⟩
      have HS := Lib.hid (spoil_any (P.2.size + 1) P.1 P.2 qn cn wH Fn (by omega) on nn (fun c hc => (fn c hc).2) ln mn HA.out.zP)
      have HSB1 := Lib.hid fun wG hI => sp_below (w2 := wG) HG.out bn fn hI
      clear x0 x1 x2 x3 on nn fn bn ln mn
      go_wp2_with fail
      refine HS.out.mono ?_
      rintro e wI ⟨rfl, hI⟩
      have HI := Lib.hid (HSB1.out _ hI)
      clear hI HS HSB1
      obtain ⟨x0, x1, x2, x3⟩ := HT.out _ HI.out
      go_wp2_with fail
      refine (HA.out.recc _ (below_go2 HBB.out HI.out)).mono ?_
      rintro e wK ⟨qn, cn, Fn, rfl, ln, mn, on, nn, fn, bn⟩
      have HS := Lib.hid (spoil_any (R.2.size + 1) R.1 R.2 qn cn wK Fn (by omega) on nn (fun c hc => (fn c hc).2) ln mn HA.out.zR)
      have HSB1 := Lib.hid fun wG hG => sp_below (w2 := wG) HI.out bn fn hG
      clear x0 x1 x2 x3 on nn fn bn ln mn
      go_wp2_with fail
      refine HS.out.mono ?_
      rintro e wL ⟨rfl, hL⟩
      have HL := Lib.hid (HSB1.out _ hL)
      clear hL HS HSB1
      obtain ⟨x0, x1, x2, x3⟩ := HT.out _ HL.out
      go_wp2_with fail
      refine (HA.out.flat _ (below_go2 HBB.out HL.out)).mono ?_
      rintro e wF1 ⟨a, c, zs, th, tk, tq, tc, Ft, rfl, hfs, bF⟩
      have hln := hfs.len
      have hlc := hfs.lc
      have hbT := below_box wF1 (.cells #[.int .u8 th.op, .string th.name, .int .i64 th.n, .slice tq tk.len tc] 25)
      have hst : FlI wB wF1 a zs th tk tq tc Ft wF1.heap.size 0 (wF1.alloc (.cells #[.int .u8 th.op, .string th.name, .int .i64 th.n, .slice tq tk.len tc] 25)) :=
        ⟨below_go2 (below_go2 HL.out bF) hbT, hbT.size, fun i hi _ x hx => hbT.block x (hfs.lies x (List.mem_append_left _ (mem_fm hi hx))).2.1, fun x hx => hbT.block x (hfs.lies x (List.mem_append_right _ hx)).2.1,
          fun h0 b hb => by
            obtain ⟨b', e, hlt, _⟩ := hfs.arr 0 h0
            rw [hb] at e
            have eb : b = b' := congrArg Addr.block (Option.some.inj e)
            rw [eb]; exact hbT.block b' hlt, World.alloc_heap_new _ _⟩
      have HST := Lib.hid hst
      have HFS := Lib.hid hfs
      have HWL := Lib.hid (Nat.le_trans HL.out.size (Nat.le_refl wL.heap.size))
      clear hst hfs bF hbT x0 x1 x2 x3
      go_wp2
      go_loopw [7] (fun i wr => ∃ j : Nat, i = .int .i64 j ∧ j ≤ zs.length ∧ FlI wB wF1 a zs th tk tq tc Ft wF1.heap.size j wr) (fun i _ => zs.length - (intOf i).toNat)
      case atStart => exact ⟨0, rfl, Nat.zero_le _, HST.out⟩
      case round =>
        obtain ⟨j, rfl, hjl, hI⟩ := hrel
        have HI2 := Lib.hid hI
        by_cases hj : j < zs.length
        · obtain ⟨b, rfl, hlt, c1, c2, c3', c4⟩ := HFS.out.arr j hj
          have eb := hI.arr (by omega) b rfl
          have d1 := (cell_same eb _).trans c1
          have d2 := (cell_same eb _).trans c2
          have d3 := (cell_same eb _).trans c3'
          have d4 := (cell_same eb _).trans c4
          obtain ⟨o1, o2, o3, o4⟩ := HFS.out.own j hj
          have HS := Lib.hid (spoil_any ((zs[j]).1.k.size + 1) (zs[j]).1.h (zs[j]).1.k (zs[j]).1.q (zs[j]).1.cap wr (zs[j]).2 (by omega) (o1.keep (hI.rest j hj (Nat.le_refl _))) (nodup_one (List.nodup_append.1 HFS.out.nodup).1 j hj)
            (fun x hx => by have := (HFS.out.lies x (List.mem_append_left _ (mem_fm hj hx))).2.1; have := hI.size; omega) o2 o3 o4)
          have HGO := Lib.hid fun W' (h' : SpOut (zs[j]).2 wr W') => hI.go HFS.out hj HL.out.size (Nat.le_refl _) h'
          generalize zs[j] = z at *
          clear hI eb c1 c2 c3' c4 o1 o2 o3 o4
          go_wp2_with fail
          refine HS.out.mono ?_
          rintro e w20 ⟨rfl, h2⟩
          have HN2 := Lib.hid (HGO.out _ h2)
          clear h2 d1 d2 d3 d4
          go_wp2
          go_roundw
          case rel => exact ⟨j + 1, by go_num, by omega, HN2.out⟩
          case measure => simp [intOf]; omega
        · have hje : j = zs.length := by omega
          have HJE := Lib.hid hje
          obtain ⟨t1, t2, t3, t4⟩ := HFS.out.tail
          have HS := Lib.hid (spoil_any (tk.size + 1) th tk tq tc wr Ft (by omega) (t1.keep hI.tail) (List.nodup_append.1 HFS.out.nodup).2.1 (fun x hx => by have := (HFS.out.lies x (List.mem_append_right _ hx)).2.1; have := hI.size; omega) t2 t3 t4)
          have HG2 := Lib.hid fun W' (h' : SpOut Ft wr W') => (hI.below.trans (h'.below (fun x hx => Nat.le_trans HL.out.size (HFS.out.lies x (List.mem_append_right _ hx)).1) hI.below.size) : Below wB.heap.size wB W')
          obtain ⟨u0, u1, u2, u3, _⟩ := row4 hI.box
          clear hje hI t1 t2 t3 t4
          go_wp2_with fail
          refine HS.out.mono ?_
          rintro e w21 ⟨rfl, h2⟩
          have HB2' := Lib.hid (HG2.out _ h2)
          clear h2 u0 u1 u2 u3
          obtain ⟨x0, x1, x2, x3⟩ := HT.out _ HB2'.out
          obtain ⟨y0, y1, y2, y3, _⟩ := row4 ((HB2'.out.block _ (Array.getElem?_eq_some_iff.1 HXW.out).1).trans HXW.out)
          go_wp2_with fail
          refine (HA.out.last _ (below_go2 HBB.out HB2'.out) qw cw (HSB.out.below HB2'.out)).mono ?_
          rintro e w22 ⟨rfl, hb22⟩
          have HEND := Lib.hid (below_go2 (below_go2 HBB.out HB2'.out) hb22)
          clear hb22 x0 x1 x2 x3 y0 y1 y2 y3
          go_wp2
          go_ret
          exact ⟨rfl, HEND.out⟩
end Go.Proofs.Ytmjijmkdeblefaa
