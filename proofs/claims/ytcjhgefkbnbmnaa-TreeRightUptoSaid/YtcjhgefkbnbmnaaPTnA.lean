/- The document's Right of terms: plain. -/
import Derived.Test.YtcjhgefkbnbmnaaPTmR
import Derived.Test.YtcjhgefkbnbmnaaPKy
namespace Go.Proofs.Ytcjhgefkbnbmnaa
open Go.RowKit LM
set_option linter.unusedVariables false

/-- The letters of the Ops. -/
def ltrL : List (List UInt8) := [[110], [105], [98], [97, 116, 101], [110, 97, 116, 101], [101, 101], [110, 101, 101], [101, 101, 101], [111, 101, 101], [46], [110, 101, 101], [110, 101], [110, 101], [110, 101, 101], [110, 101], [110, 101], [99], [110, 97, 101], [97, 101], [84, 101]]
def ltrs (op : Int) : List UInt8 := if op < 32 then [] else ltrL.getD (op - 32).toNat []
def hasL (p : List UInt8) (c : Int) : Bool := p.any fun x => (x.toNat : Int) == c
/-- How many expressions are asked for. -/
def cntE (p : List UInt8) : Nat := (p.filter (· == 101)).length

/-- Is the annotation as it should be? -/
def annR (h : TH) (p : List UInt8) : Bool :=
  if h.has then (hasL p 84 || hasL p 116) && (rightB h.ah h.ak 1 && decide ((varsT (canT h.ah h.ak)).length = 0)) else !hasL p 84 && zeroB h.ah h.ak
/-- Are a node's parts, its Kids apart? -/
def partsR (h : TH) (p : List UInt8) : Bool :=
  (hasL p 111 == signB h.name) && (hasL p 111 || (hasL p 110 == wordL h.name.toList)) && (hasL p 111 || hasL p 110 || decide (h.name = ⟨#[]⟩)) &&
  (hasL p 97 == wordL h.arg.toList) && (hasL p 97 || decide (h.arg = ⟨#[]⟩)) && decide (0 ≤ h.n) && (decide (h.n ≤ 0) || hasL p 105 || (hasL p 98 && decide (h.n = 1))) && annR h p

theorem word_sign {s : ByteArray} (h : signB s = true) : wordL s.toList = false := by
  unfold signB at h
  simp only [Bool.or_eq_true, decide_eq_true_eq] at h
  rcases h with (((((rfl | rfl) | rfl) | rfl) | rfl) | rfl) | rfl <;> decide +kernel
theorem word_empty : wordL [] = false := rfl
theorem sign_empty : signB ⟨#[]⟩ = false := by decide +kernel

theorem annR_eq {h : TH} {p : List UInt8} {n : Int} (h1 : (hasL p 84 || hasL p 116) = decide (n ≠ 0)) (h2 : hasL p 84 = decide (n = 2)) : annR h p = annB h n := by
  unfold annR annB
  split
  · rw [h1]
    by_cases hr : rightB h.ah h.ak 1 = true
    · rw [hr, ← closed_vars (sh1_right hr) (.inl rfl)]
      simp [closB, hr]
    · have hr' : rightB h.ah h.ak 1 = false := by simpa using hr
      simp [hr']
  · rw [h2]; simp
theorem partsR_eq {h : TH} {p : List UInt8} {q : Pts} (hO : hasL p 111 = q.sign) (hN : hasL p 110 = q.name) (hA : hasL p 97 = q.arg) (hno : q.sign = true → q.name = false)
    (hM : (decide (h.n ≤ 0) || hasL p 105 || (hasL p 98 && decide (h.n = 1))) = decide (h.n ≤ q.most)) (h1 : (hasL p 84 || hasL p 116) = decide (q.ann ≠ 0)) (h2 : hasL p 84 = decide (q.ann = 2)) :
    partsR h p = (tnameB h.name q && wordB h.arg q.arg && decide (0 ≤ h.n) && decide (h.n ≤ q.most) && annB h q.ann) := by
  unfold partsR
  rw [hO, hN, hA, hM, annR_eq h1 h2]
  have e1 : ((q.sign == signB h.name) && (q.sign || (q.name == wordL h.name.toList)) && (q.sign || q.name || decide (h.name = ⟨#[]⟩))) = tnameB h.name q := by
    unfold tnameB wordB
    cases hs : q.sign
    · cases hn : q.name
      · by_cases he : h.name = ⟨#[]⟩
        · simp [he, word_empty, sign_empty]
        · simp [he]
      · cases hw : wordL h.name.toList
        · simp
        · cases hg : signB h.name
          · simp
          · rw [word_sign hg] at hw; cases hw
    · cases hg : signB h.name <;> simp
  have e2 : ((q.arg == wordL h.arg.toList) && (q.arg || decide (h.arg = ⟨#[]⟩))) = wordB h.arg q.arg := by
    unfold wordB
    cases ha : q.arg
    · by_cases he : h.arg = ⟨#[]⟩
      · simp [he, word_empty]
      · simp [he]
    · cases hw : wordL h.arg.toList <;> simp
  rw [e1]
  rw [show ∀ a b c d e f : Bool, (a && b && c && d && e && f) = (a && (b && c) && d && e && f) from fun a b c d e f => by cases a <;> cases b <;> cases c <;> rfl, e2]

/-- What an Op asks for, by its letters and by its parts. -/
theorem partsR_pts {h : TH} (hh : h.ok) {q : Pts} (hq : ptsT h.op = some q) : partsR h (ltrs h.op) = (tnameB h.name q && wordB h.arg q.arg && decide (0 ≤ h.n) && decide (h.n ≤ q.most) && annB h q.ann) := by
  have hn1 := hh.n1
  rcases op_cases h.op with ⟨k, hk0, hk1, e⟩ | hno
  · rw [e] at hq ⊢
    clear e
    have hk : k = 32 ∨ k = 33 ∨ k = 34 ∨ k = 35 ∨ k = 36 ∨ k = 37 ∨ k = 38 ∨ k = 39 ∨ k = 40 ∨ k = 41 ∨ k = 42 ∨ k = 43 ∨ k = 44 ∨ k = 45 ∨ k = 46 ∨ k = 47 ∨ k = 48 ∨ k = 49 ∨ k = 50 ∨ k = 51 := by omega
    rcases hk with rfl | rfl | rfl | rfl | rfl | rfl | rfl | rfl | rfl | rfl | rfl | rfl | rfl | rfl | rfl | rfl | rfl | rfl | rfl | rfl <;>
      (simp only [ptsT] at hq
       obtain rfl := Option.some.inj hq
       refine partsR_eq rfl rfl rfl (fun h => by first | rfl | (exact absurd h (by decide))) ?_ rfl rfl
       first
         | (show (decide (h.n ≤ 0) || false || (false && decide (h.n = 1))) = decide (h.n ≤ 0); simp; done)
         | (show (decide (h.n ≤ 0) || true || (false && decide (h.n = 1))) = decide (h.n ≤ 9223372036854775807); simp; omega)
         | (show (decide (h.n ≤ 0) || false || (true && decide (h.n = 1))) = decide (h.n ≤ 1); rw [Bool.eq_iff_iff]; simp; omega))
  · rw [ptsT_no hno] at hq; cases hq
theorem ltrs_none {op : Int} (h0 : 0 ≤ op) : (ltrs op = [] ↔ ptsT op = none) := by
  rcases op_cases op with ⟨k, hk0, hk1, rfl⟩ | hno
  · have hk : k = 32 ∨ k = 33 ∨ k = 34 ∨ k = 35 ∨ k = 36 ∨ k = 37 ∨ k = 38 ∨ k = 39 ∨ k = 40 ∨ k = 41 ∨ k = 42 ∨ k = 43 ∨ k = 44 ∨ k = 45 ∨ k = 46 ∨ k = 47 ∨ k = 48 ∨ k = 49 ∨ k = 50 ∨ k = 51 := by omega
    rcases hk with rfl | rfl | rfl | rfl | rfl | rfl | rfl | rfl | rfl | rfl | rfl | rfl | rfl | rfl | rfl | rfl | rfl | rfl | rfl | rfl <;> decide +kernel
  · rw [ptsT_no hno]
    refine ⟨fun _ => rfl, fun _ => ?_⟩
    unfold ltrs
    split
    · rfl
    · have : 20 ≤ (op - 32).toNat := by
        rcases Int.lt_or_le 51 op with h | h
        · omega
        · exact absurd rfl (hno op (by omega) h)
      rw [List.getD_eq_getElem?_getD, List.getElem?_eq_none (by simpa [ltrL] using this)]; rfl
theorem cntE_pts {op : Int} {q : Pts} (hq : ptsT op = some q) : (cntE (ltrs op) : Int) = q.kids := by
  rcases op_cases op with ⟨k, hk0, hk1, rfl⟩ | hno
  · have hk : k = 32 ∨ k = 33 ∨ k = 34 ∨ k = 35 ∨ k = 36 ∨ k = 37 ∨ k = 38 ∨ k = 39 ∨ k = 40 ∨ k = 41 ∨ k = 42 ∨ k = 43 ∨ k = 44 ∨ k = 45 ∨ k = 46 ∨ k = 47 ∨ k = 48 ∨ k = 49 ∨ k = 50 ∨ k = 51 := by omega
    rcases hk with rfl | rfl | rfl | rfl | rfl | rfl | rfl | rfl | rfl | rfl | rfl | rfl | rfl | rfl | rfl | rfl | rfl | rfl | rfl | rfl <;>
      (simp only [ptsT] at hq; obtain rfl := Option.some.inj hq; decide +kernel)
  · rw [ptsT_no hno] at hq; cases hq
theorem ltrs_c {op : Int} (h0 : 0 ≤ op) : (ltrs op = [99] ↔ op = 48) := by
  rcases op_cases op with ⟨k, hk0, hk1, rfl⟩ | hno
  · have hk : k = 32 ∨ k = 33 ∨ k = 34 ∨ k = 35 ∨ k = 36 ∨ k = 37 ∨ k = 38 ∨ k = 39 ∨ k = 40 ∨ k = 41 ∨ k = 42 ∨ k = 43 ∨ k = 44 ∨ k = 45 ∨ k = 46 ∨ k = 47 ∨ k = 48 ∨ k = 49 ∨ k = 50 ∨ k = 51 := by omega
    rcases hk with rfl | rfl | rfl | rfl | rfl | rfl | rfl | rfl | rfl | rfl | rfl | rfl | rfl | rfl | rfl | rfl | rfl | rfl | rfl | rfl <;> decide +kernel
  · have := (ltrs_none h0).2 (ptsT_no hno)
    rw [this]
    exact ⟨(fun h => nomatch h), fun h => absurd h (hno 48 (by omega) (by omega))⟩
theorem tsort3 (op : Int) : tsortT op = 3 ↔ op = 50 := by
  unfold tsortT; split
  · omega
  · split
    · simp [*]
    · split <;> simp [*]
theorem tsort2 (op : Int) : tsortT op = 2 ↔ op = 49 := by
  unfold tsortT; split
  · simp [*]
  · split
    · simp [*]
    · split <;> simp [*]
theorem tsort1 (op : Int) : tsortT op = 1 ↔ (ptsT op ≠ none ∧ op ≠ 49 ∧ op ≠ 50) := by
  unfold tsortT; split
  · simp [*]
  · split
    · simp [*]
    · split
      · rename_i h; simp [*]; intro e; rw [e] at h; cases h
      · rename_i h; simp [*]; simpa using h

/-- May it stand as an expression, or as an arm? -/
def sortB (arm : Bool) (op : Int) : Bool := if arm then decide (op = 49) || decide (op = 50) else decide (tsortT op = 1)
/-- Is a tree a right expression, or a right arm? -/
def rT (arm : Bool) (t : TH × TF) : Bool := sortB arm t.1.op && (t :: t.2.flat).all okT
theorem trightB_rT (h : TH) (k : TF) : trightB h k = rT false (h, k) := by simp [trightB, rT, sortB]

theorem tflat_all (p : TH × TF → Bool) (k : TF) : k.flat.all p = k.toList.all fun t => (t :: t.2.flat).all p := by
  induction k with
  | nil => rfl
  | cons h k r hk hr => simp [TF.flat, TF.toList, hr, Bool.and_assoc]
theorem tall_get (p : TH × TF → Bool) (k : TF) : k.toList.all p = true ↔ ∀ i, i < k.len → p (k.get i) = true := by
  rw [List.all_eq_true]
  constructor
  · intro h i hi
    have hi' : i < k.toList.length := by rw [TF.length_toList]; exact hi
    have : k.get i = k.toList[i] := by unfold TF.get; rw [List.getElem?_eq_getElem hi']; rfl
    rw [this]; exact h _ (List.getElem_mem hi')
  · intro h x hx
    obtain ⟨i, hi, rfl⟩ := List.mem_iff_getElem.1 hx
    have := h i (by rw [← TF.length_toList]; exact hi)
    unfold TF.get at this; rw [List.getElem?_eq_getElem hi] at this; exact this
theorem armsB_iff (l : List Int) : armsB l = true ↔ ∀ i, (h : i < l.length) → (l[i] = 49 ∨ l[i] = 50) ∧ (l[i] = 50 → i + 1 = l.length) := by
  unfold armsB
  by_cases h0 : l = []
  · subst h0; simp [allB]
  · have hl : 0 < l.length := List.length_pos_iff.2 h0
    have eL : l.getD (l.length - 1) 0 = l[l.length - 1]'(by omega) := by rw [List.getD_eq_getElem?_getD, List.getElem?_eq_getElem (by omega)]; rfl
    by_cases h3 : tsortT (l.getD (l.length - 1) 0) = 3
    · rw [if_pos ⟨hl, h3⟩]
      rw [tsort3, eL] at h3
      unfold allB
      rw [List.all_eq_true]
      constructor
      · intro h i hi
        by_cases hi2 : i = l.length - 1
        · subst hi2; exact ⟨.inr h3, fun _ => by omega⟩
        · have := h l[i] (by rw [List.mem_take_iff_getElem]; exact ⟨i, by omega, rfl⟩)
          have := (tsort2 _).1 (of_decide_eq_true this)
          exact ⟨.inl this, fun e => by omega⟩
      · intro h x hx
        obtain ⟨i, hi, rfl⟩ := List.mem_take_iff_getElem.1 hx
        obtain ⟨a, b⟩ := h i (by omega)
        refine decide_eq_true ((tsort2 _).2 ?_)
        rcases a with a | a
        · exact a
        · have := b a; omega
    · rw [if_neg (fun h => h3 h.2)]
      rw [tsort3, eL] at h3
      unfold allB
      rw [List.all_eq_true]
      constructor
      · intro h i hi
        have := (tsort2 _).1 (of_decide_eq_true (h l[i] (List.getElem_mem hi)))
        exact ⟨.inl this, fun e => by omega⟩
      · intro h x hx
        obtain ⟨i, hi, rfl⟩ := List.mem_iff_getElem.1 hx
        obtain ⟨a, b⟩ := h i hi
        refine decide_eq_true ((tsort2 _).2 ?_)
        rcases a with a | a
        · exact a
        · have e := b a
          exfalso; apply h3
          have : i = l.length - 1 := by omega
          subst this; exact a

/-- What the document asks of the Kids. -/
def kidsR (op : Int) (k : TF) : Prop :=
  (op = 48 → 0 < k.len ∧ rT false (k.get 0) = true ∧ ∀ i, 1 ≤ i → i < k.len → rT true (k.get i) = true ∧ ((k.get i).1.op = 50 → i + 1 = k.len)) ∧
  (op ≠ 48 → k.len = cntE (ltrs op) ∧ ∀ i, i < k.len → rT false (k.get i) = true)
theorem ops_get (k : TF) (i : Nat) (hi : i < k.len) : (k.toList.map fun t => t.1.op)[i]'(by simpa [TF.length_toList] using hi) = (k.get i).1.op := by
  have hi' : i < k.toList.length := by rw [TF.length_toList]; exact hi
  unfold TF.get; rw [List.getElem?_eq_getElem hi']; simp
theorem kidsR_iff {op : Int} {q : Pts} (hq : ptsT op = some q) (k : TF) : (kidsB op q.kids (k.toList.map fun t => t.1.op) && k.flat.all okT) = true ↔ kidsR op k := by
  have hc := cntE_pts hq
  rw [Bool.and_eq_true, tflat_all, tall_get]
  unfold kidsR kidsB
  by_cases h48 : op = 48
  · rw [if_neg (by simpa using h48)]
    have hne : ¬ op ≠ 48 := by simpa using h48
    simp only [h48, forall_const, ne_eq, not_true_eq_false, false_implies, and_true]
    cases k with
    | nil => simp [TF.toList, TF.len]
    | cons h0 k0 r =>
      simp only [TF.toList, List.map_cons, TF.len]
      rw [Bool.and_eq_true, armsB_iff]
      have hlr : (r.toList.map fun t => t.1.op).length = r.len := by simp [TF.length_toList]
      constructor
      · rintro ⟨⟨ha, hb⟩, hs⟩
        have h0s := hs 0 (by omega)
        rw [TF.get_zero] at h0s
        refine ⟨by omega, ?_, fun i h1 hi => ?_⟩
        · rw [TF.get_zero]; unfold rT sortB; simp only [allB, List.all_cons, List.all_nil, Bool.and_true] at ha; simp only [Bool.false_eq_true, if_false, ha, Bool.true_and]; exact h0s
        · obtain ⟨j, rfl⟩ : ∃ j, i = j + 1 := ⟨i - 1, by omega⟩
          have hs' := hs (j + 1) hi
          rw [TF.get_succ] at hs' ⊢
          obtain ⟨a, b⟩ := hb j (by rw [hlr]; omega)
          rw [ops_get r j (by omega)] at a b
          rw [hlr] at b
          refine ⟨?_, fun e => by have := b e; omega⟩
          unfold rT sortB
          rw [if_pos rfl, hs']; simpa using a
      · rintro ⟨_, ha, hb⟩
        rw [TF.get_zero] at ha
        unfold rT sortB at ha
        simp only [Bool.false_eq_true, if_false, Bool.and_eq_true] at ha
        refine ⟨⟨by simp only [allB, List.all_cons, List.all_nil, Bool.and_true]; exact ha.1, fun i hi => ?_⟩, fun i hi => ?_⟩
        · rw [hlr] at hi
          obtain ⟨x, y⟩ := hb (i + 1) (by omega) (by omega)
          rw [TF.get_succ] at x y
          rw [ops_get r i hi, hlr]
          unfold rT sortB at x
          rw [if_pos rfl, Bool.and_eq_true] at x
          exact ⟨by simpa using x.1, fun e => by have := y e; omega⟩
        · cases i with
          | zero => rw [TF.get_zero]; simpa using ha.2
          | succ i =>
            have := (hb (i + 1) (by omega) hi).1
            unfold rT at this; rw [Bool.and_eq_true] at this; exact this.2
  · rw [if_pos h48]
    simp only [h48, false_implies, true_and, ne_eq, not_false_eq_true, forall_const]
    rw [Bool.and_eq_true, decide_eq_true_eq, List.length_map, TF.length_toList, ← hc]
    unfold allB
    rw [List.all_map, tall_get]
    constructor
    · rintro ⟨⟨a, b⟩, c⟩
      refine ⟨by omega, fun i hi => ?_⟩
      unfold rT sortB; rw [if_neg (by decide), Bool.and_eq_true]; exact ⟨b i hi, c i hi⟩
    · rintro ⟨a, b⟩
      refine ⟨⟨by omega, fun i hi => ?_⟩, fun i hi => ?_⟩
      · have := b i hi; unfold rT sortB at this; rw [if_neg (by decide), Bool.and_eq_true] at this; exact this.1
      · have := b i hi; unfold rT at this; rw [Bool.and_eq_true] at this; exact this.2
/-- The document's Right, step by step. -/
theorem rT_iff {arm : Bool} {h : TH} {k : TF} (hh : h.ok) : rT arm (h, k) = true ↔ (ltrs h.op ≠ [] ∧ (arm = true ↔ (h.op = 49 ∨ h.op = 50)) ∧ partsR h (ltrs h.op) = true ∧ kidsR h.op k) := by
  cases hq : ptsT h.op with
  | none =>
    have hl := (ltrs_none hh.op0).2 hq
    constructor
    · intro e
      unfold rT okT at e
      simp only [List.all_cons, fitsT, hq, Bool.false_and, Bool.and_false] at e
      cases e
    · rintro ⟨a, _⟩; exact absurd hl a
  | some q =>
    have hl : ltrs h.op ≠ [] := fun e => by rw [(ltrs_none hh.op0).1 e] at hq; cases hq
    have hsb : sortB arm h.op = true ↔ (arm = true ↔ (h.op = 49 ∨ h.op = 50)) := by
      cases arm
      · simp only [sortB, Bool.false_eq_true, if_false, decide_eq_true_eq, tsort1, hq, false_iff]
        constructor
        · rintro ⟨_, a, b⟩ (c | c)
          · exact a c
          · exact b c
        · intro a; exact ⟨by simp, fun c => a (.inl c), fun c => a (.inr c)⟩
      · simp [sortB]
    unfold rT
    rw [Bool.and_eq_true, hsb, List.all_cons]
    have e : okT (h, k) = (partsR h (ltrs h.op) && kidsB h.op q.kids (k.toList.map fun t => t.1.op)) := by
      rw [partsR_pts hh hq]; unfold okT fitsT; rw [hq]
    rw [e, Bool.and_assoc, Bool.and_eq_true, kidsR_iff hq]
    exact ⟨fun ⟨a, b, c⟩ => ⟨hl, a, b, c⟩, fun ⟨_, a, b, c⟩ => ⟨a, b, c⟩⟩
end Go.Proofs.Ytcjhgefkbnbmnaa
