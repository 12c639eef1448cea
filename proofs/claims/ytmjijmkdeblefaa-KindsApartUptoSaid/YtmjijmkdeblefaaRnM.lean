/- Plain lists and numbers for layer 1: code points, their bytes, decoding. Imports nothing of the program. -/
namespace Go.Proofs.Ytmjijmkdeblefaa.RM
set_option linter.unusedVariables false

def isPt (r : Int) : Bool := decide (0 ≤ r ∧ r < 55296 ∨ 57343 < r ∧ r ≤ 1114111)

def encB (r : Int) : List Int :=
  if r < 128 then [r]
  else if r < 2048 then [192 + r / 64, 128 + r % 64]
  else if r < 65536 then [224 + r / 4096, 128 + r / 64 % 64, 128 + r % 64]
  else [240 + r / 262144, 128 + r / 4096 % 64, 128 + r / 64 % 64, 128 + r % 64]

theorem isPt_iff {r : Int} : isPt r = true ↔ (0 ≤ r ∧ r < 55296 ∨ 57343 < r ∧ r ≤ 1114111) := by simp [isPt]

theorem encB_len (r : Int) : 1 ≤ (encB r).length ∧ (encB r).length ≤ 4 := by
  unfold encB; repeat' split
  all_goals simp

theorem encB_rng {r : Int} (h : isPt r = true) : ∀ x ∈ encB r, 0 ≤ x ∧ x ≤ 255 := by
  rw [isPt_iff] at h
  unfold encB; repeat' split
  all_goals (intro x hx; simp at hx; omega)

theorem encB_inj {r s : Int} {t u : List Int} (hr : isPt r = true) (hs : isPt s = true) (h : encB r ++ t = encB s ++ u) : r = s ∧ t = u := by
  rw [isPt_iff] at hr hs
  unfold encB at h
  repeat' split at h
  all_goals (simp only [List.cons_append, List.nil_append, List.cons.injEq] at h)
  all_goals first | (exfalso; omega) | skip
  all_goals (refine ⟨by omega, ?_⟩)
  all_goals first | exact h.2 | exact h.2.2 | exact h.2.2.2 | exact h.2.2.2.2

/-- The bytes of the code point r stand at the place p of l. -/
def Dec (l : List Int) (p : Nat) (r : Int) : Prop := isPt r = true ∧ ∃ t, l.drop p = encB r ++ t

theorem Dec.uniq {l : List Int} {p : Nat} {r s : Int} (h : Dec l p r) (k : Dec l p s) : r = s := by
  obtain ⟨h1, t, ht⟩ := h
  obtain ⟨k1, u, hu⟩ := k
  exact (encB_inj h1 k1 (ht.symm.trans hu)).1

open Classical in
/-- The code point at a place (0: none), and how many bytes it has (0: none). -/
noncomputable def decR (l : List Int) (p : Nat) : Int := if h : ∃ r, Dec l p r then h.choose else 0
open Classical in
noncomputable def decN (l : List Int) (p : Nat) : Nat := if h : ∃ r, Dec l p r then (encB h.choose).length else 0

theorem Dec.r {l : List Int} {p : Nat} {r : Int} (h : Dec l p r) : decR l p = r := by
  unfold decR
  rw [dif_pos ⟨r, h⟩]
  exact Dec.uniq (Exists.choose_spec (p := fun r => Dec l p r) ⟨r, h⟩) h

theorem Dec.n {l : List Int} {p : Nat} {r : Int} (h : Dec l p r) : decN l p = (encB r).length := by
  unfold decN
  rw [dif_pos ⟨r, h⟩]
  rw [Dec.uniq (Exists.choose_spec (p := fun r => Dec l p r) ⟨r, h⟩) h]

theorem dec_none {l : List Int} {p : Nat} (h : ∀ r, ¬ Dec l p r) : decR l p = 0 ∧ decN l p = 0 := by
  unfold decR decN
  have : ¬ ∃ r, Dec l p r := fun ⟨r, hr⟩ => h r hr
  rw [dif_neg this, dif_neg this]
  exact ⟨rfl, rfl⟩

theorem dec_cases (l : List Int) (p : Nat) : (∃ r, Dec l p r ∧ decR l p = r ∧ decN l p = (encB r).length) ∨ ((∀ r, ¬ Dec l p r) ∧ decR l p = 0 ∧ decN l p = 0) := by
  by_cases h : ∃ r, Dec l p r
  · obtain ⟨r, hr⟩ := h
    exact .inl ⟨r, hr, hr.r, hr.n⟩
  · have : ∀ r, ¬ Dec l p r := fun r hr => h ⟨r, hr⟩
    exact .inr ⟨this, dec_none this⟩

theorem Dec.fits {l : List Int} {p : Nat} {r : Int} (h : Dec l p r) : p + (encB r).length ≤ l.length := by
  obtain ⟨_, t, ht⟩ := h
  have h1 := congrArg List.length ht
  have := (encB_len r).1
  simp at h1
  omega

theorem decN_fits (l : List Int) (p : Nat) : decN l p ≤ 4 ∧ (decN l p ≠ 0 → p + decN l p ≤ l.length) := by
  rcases dec_cases l p with ⟨r, h, _, h2⟩ | ⟨_, _, h2⟩
  · rw [h2]; exact ⟨(encB_len r).2, fun _ => h.fits⟩
  · rw [h2]; exact ⟨by omega, fun h => absurd rfl h⟩

theorem decR_rng (l : List Int) (p : Nat) : 0 ≤ decR l p ∧ decR l p ≤ 1114111 := by
  rcases dec_cases l p with ⟨r, h, h1, _⟩ | ⟨_, h1, _⟩
  · rw [h1]; have := isPt_iff.1 h.1; omega
  · rw [h1]; omega

theorem decN_end {l : List Int} {p : Nat} (h : l.length ≤ p) : decR l p = 0 ∧ decN l p = 0 :=
  dec_none fun r hr => by have := hr.fits; have := (encB_len r).1; omega

/-- n bytes at p, spelled out. -/
theorem dec_one {l : List Int} {p : Nat} {r a : Int} (h1 : p + 1 ≤ l.length) (ha : l.getD p 0 = a) (hr : isPt r = true) (he : encB r = [a]) : Dec l p r := by
  refine ⟨hr, l.drop (p + 1), ?_⟩
  rw [he, List.drop_eq_getElem_cons (by omega)]
  simp [← ha, List.getD_eq_getElem?_getD, List.getElem?_eq_getElem (show p < l.length by omega)]

theorem drop_getD {l : List Int} {p : Nat} (h : p < l.length) : l.drop p = l.getD p 0 :: l.drop (p + 1) := by
  rw [List.drop_eq_getElem_cons h]
  simp [List.getD_eq_getElem?_getD, List.getElem?_eq_getElem h]

/-- What the bytes at p must be, by the first of them: the numbers of bytes from 1 to 4. -/
theorem dec_bytes {l : List Int} {p : Nat} {r : Int} (h : Dec l p r) :
    (l.getD p 0 = r ∧ r < 128 ∧ (encB r).length = 1) ∨
    (p + 1 < l.length ∧ l.getD p 0 = 192 + r / 64 ∧ l.getD (p + 1) 0 = 128 + r % 64 ∧ 128 ≤ r ∧ r < 2048 ∧ (encB r).length = 2) ∨
    (p + 2 < l.length ∧ l.getD p 0 = 224 + r / 4096 ∧ l.getD (p + 1) 0 = 128 + r / 64 % 64 ∧ l.getD (p + 2) 0 = 128 + r % 64 ∧ 2048 ≤ r ∧ r < 65536 ∧ (encB r).length = 3) ∨
    (p + 3 < l.length ∧ l.getD p 0 = 240 + r / 262144 ∧ l.getD (p + 1) 0 = 128 + r / 4096 % 64 ∧ l.getD (p + 2) 0 = 128 + r / 64 % 64 ∧ l.getD (p + 3) 0 = 128 + r % 64 ∧ 65536 ≤ r ∧ (encB r).length = 4) := by
  have hf := h.fits
  obtain ⟨_, t, ht⟩ := h
  unfold encB at *
  repeat' split at ht
  all_goals (simp only [List.length_cons, List.length_nil, if_true, if_false, *] at *)
  · refine .inl ?_
    rw [drop_getD (by simp at hf; omega)] at ht
    simp at ht ⊢
    omega
  · refine .inr (.inl ?_)
    rw [drop_getD (by simp at hf; omega), drop_getD (by simp at hf; omega)] at ht
    simp [Nat.add_assoc] at ht hf ⊢
    omega
  · refine .inr (.inr (.inl ?_))
    rw [drop_getD (by simp at hf; omega), drop_getD (by simp at hf; omega), drop_getD (by simp at hf; omega)] at ht
    simp [Nat.add_assoc] at ht hf ⊢
    omega
  · refine .inr (.inr (.inr ?_))
    rw [drop_getD (by simp at hf; omega), drop_getD (by simp at hf; omega), drop_getD (by simp at hf; omega), drop_getD (by simp at hf; omega)] at ht
    simp [Nat.add_assoc] at ht hf ⊢
    omega

theorem dec_mk {l : List Int} {p : Nat} {r : Int} (hr : isPt r = true) (h :
    (p < l.length ∧ l.getD p 0 = r ∧ r < 128) ∨
    (p + 1 < l.length ∧ l.getD p 0 = 192 + r / 64 ∧ l.getD (p + 1) 0 = 128 + r % 64 ∧ 128 ≤ r ∧ r < 2048) ∨
    (p + 2 < l.length ∧ l.getD p 0 = 224 + r / 4096 ∧ l.getD (p + 1) 0 = 128 + r / 64 % 64 ∧ l.getD (p + 2) 0 = 128 + r % 64 ∧ 2048 ≤ r ∧ r < 65536) ∨
    (p + 3 < l.length ∧ l.getD p 0 = 240 + r / 262144 ∧ l.getD (p + 1) 0 = 128 + r / 4096 % 64 ∧ l.getD (p + 2) 0 = 128 + r / 64 % 64 ∧ l.getD (p + 3) 0 = 128 + r % 64 ∧ 65536 ≤ r)) : Dec l p r := by
  rcases h with ⟨h0, ha, hb⟩ | ⟨h0, ha, hb, hc, hd⟩ | ⟨h0, ha, hb, hc, hd, he⟩ | ⟨h0, ha, hb, hc, hd, he⟩
  · refine ⟨hr, l.drop (p + 1), ?_⟩
    rw [drop_getD (by omega), ha]
    unfold encB; rw [if_pos hb]; rfl
  · refine ⟨hr, l.drop (p + 2), ?_⟩
    rw [drop_getD (by omega), drop_getD (l := l) (p := p + 1) (by omega), ha, hb]
    unfold encB; rw [if_neg (by omega), if_pos hd]; rfl
  · refine ⟨hr, l.drop (p + 3), ?_⟩
    rw [drop_getD (by omega), drop_getD (l := l) (p := p + 1) (by omega), drop_getD (l := l) (p := p + 2) (by omega), ha, hb, hc]
    unfold encB; rw [if_neg (by omega), if_neg (by omega), if_pos he]; rfl
  · refine ⟨hr, l.drop (p + 4), ?_⟩
    rw [drop_getD (by omega), drop_getD (l := l) (p := p + 1) (by omega), drop_getD (l := l) (p := p + 2) (by omega), drop_getD (l := l) (p := p + 3) (by omega), ha, hb, hc, hd]
    unfold encB; rw [if_neg (by omega), if_neg (by omega), if_neg (by omega)]; rfl
/-! ### going over a text -/
noncomputable def wk (l : List Int) : Nat → Nat → List Int → List Int × Nat
  | 0, p, acc => (acc, p)
  | f + 1, p, acc => if decN l p = 0 then (acc, p) else wk l f (p + decN l p) (acc ++ [decR l p])

noncomputable def run (l : List Int) : List Int × Nat := wk l l.length 0 []

/-- the place p is met behind the code points acc -/
def Met (l : List Int) (p : Nat) (acc : List Int) : Prop := ∃ f, run l = wk l f p acc ∧ l.length ≤ p + f ∧ p ≤ l.length ∧ acc.length ≤ p

theorem Met.start (l : List Int) : Met l 0 [] := ⟨l.length, rfl, by omega, by omega, by simp⟩

theorem Met.step {l : List Int} {p : Nat} {acc : List Int} (h : Met l p acc) (hn : decN l p ≠ 0) : Met l (p + decN l p) (acc ++ [decR l p]) := by
  obtain ⟨f, h1, h2, h3, h4⟩ := h
  have h5 := (decN_fits l p).2 hn
  cases f with
  | zero => omega
  | succ f =>
    refine ⟨f, ?_, by omega, by omega, by simp; omega⟩
    rw [h1, wk, if_neg hn]

theorem Met.stop {l : List Int} {p : Nat} {acc : List Int} (h : Met l p acc) (hn : decN l p = 0) : run l = (acc, p) := by
  obtain ⟨f, h1, _⟩ := h
  cases f with
  | zero => rw [h1, wk]
  | succ f => rw [h1, wk, if_pos hn]

theorem Met.atEnd {l : List Int} {p : Nat} {acc : List Int} (h : Met l p acc) (hn : l.length ≤ p) : run l = (acc, p) ∧ p = l.length :=
  ⟨h.stop (decN_end hn).2, by obtain ⟨_, _, _, h3, _⟩ := h; omega⟩

/-- the bytes of code points, one behind the other -/
def flat : List Int → List Int
  | [] => []
  | r :: rs => encB r ++ flat rs

theorem flat_append (a b : List Int) : flat (a ++ b) = flat a ++ flat b := by
  induction a with
  | nil => rfl
  | cons x xs ih => simp [flat, ih]

theorem Dec.drop {l : List Int} {p : Nat} {r : Int} (h : Dec l p r) : l.take (p + (encB r).length) = l.take p ++ encB r := by
  obtain ⟨_, t, ht⟩ := h
  rw [List.take_add, ht]
  simp

theorem wk_flat (l : List Int) : ∀ f p acc, flat acc = l.take p → (∀ r ∈ acc, isPt r = true) → (flat (wk l f p acc).1 = l.take (wk l f p acc).2 ∧ ∀ r ∈ (wk l f p acc).1, isPt r = true) := by
  intro f
  induction f with
  | zero => intro p acc h k; exact ⟨h, k⟩
  | succ f ih =>
    intro p acc h k
    rw [wk]
    by_cases hn : decN l p = 0
    · rw [if_pos hn]; exact ⟨h, k⟩
    · rw [if_neg hn]
      rcases dec_cases l p with ⟨r, hr, h1, h2⟩ | ⟨_, _, h2⟩
      · rw [h1, h2]
        refine ih _ _ ?_ ?_
        · rw [flat_append, h, hr.drop]; simp [flat]
        · intro x hx
          rcases List.mem_append.1 hx with hx | hx
          · exact k x hx
          · simp at hx; rw [hx]; exact hr.1
      · exact absurd h2 hn

theorem run_flat (l : List Int) : flat (run l).1 = l.take (run l).2 ∧ ∀ r ∈ (run l).1, isPt r = true := wk_flat l _ 0 [] (by simp [flat]) (by simp)

theorem wk_of_flat : ∀ (rs pre acc : List Int) (f : Nat), (∀ r ∈ rs, isPt r = true) → (flat rs).length ≤ f →
    wk (pre ++ flat rs) f pre.length acc = (acc ++ rs, pre.length + (flat rs).length) := by
  intro rs
  induction rs with
  | nil =>
    intro pre acc f _ _
    have h : decN (pre ++ flat []) pre.length = 0 := (decN_end (by simp [flat])).2
    cases f with
    | zero => simp [wk, flat]
    | succ f => rw [wk, if_pos h]; simp [flat]
  | cons r rs ih =>
    intro pre acc f hp hf
    have hd : Dec (pre ++ flat (r :: rs)) pre.length r := ⟨hp r (by simp), flat rs, by simp [flat]⟩
    have hl := (encB_len r).1
    have hfl : (flat (r :: rs)).length = (encB r).length + (flat rs).length := by simp [flat]
    cases f with
    | zero => omega
    | succ f =>
      rw [wk, if_neg (by rw [hd.n]; omega), hd.n, hd.r]
      have := ih (pre ++ encB r) (acc ++ [r]) f (fun x hx => hp x (by simp [hx])) (by omega)
      have e : pre ++ flat (r :: rs) = (pre ++ encB r) ++ flat rs := by simp [flat]
      rw [e]
      simp only [List.length_append] at this
      rw [this]
      simp [flat, Nat.add_assoc]

theorem run_of_flat {rs : List Int} (h : ∀ r ∈ rs, isPt r = true) : run (flat rs) = (rs, (flat rs).length) := by
  have := wk_of_flat rs [] [] (flat rs).length h (Nat.le_refl _)
  simpa [run] using this

theorem run_le (l : List Int) : (run l).2 ≤ l.length ∧ (run l).1.length ≤ l.length := by
  have key : ∀ f p acc, p ≤ l.length → acc.length ≤ p → (wk l f p acc).2 ≤ l.length ∧ (wk l f p acc).1.length ≤ (wk l f p acc).2 := by
    intro f
    induction f with
    | zero => intro p acc h k; exact ⟨h, k⟩
    | succ f ih =>
      intro p acc h k
      rw [wk]
      by_cases hn : decN l p = 0
      · rw [if_pos hn]; exact ⟨h, k⟩
      · rw [if_neg hn]
        exact ih _ _ ((decN_fits l p).2 hn) (by simp; omega)
  have := key l.length 0 [] (by omega) (by simp)
  show (wk l l.length 0 []).2 ≤ _ ∧ (wk l l.length 0 []).1.length ≤ _
  omega

/-! ### line feeds -/
theorem ten_mem {r : Int} (h : isPt r = true) : (10 : Int) ∈ encB r ↔ r = 10 := by
  rw [isPt_iff] at h
  unfold encB; repeat' split
  all_goals (simp; try omega)

theorem count_flat {rs : List Int} (h : ∀ r ∈ rs, isPt r = true) : (flat rs).count 10 = rs.count 10 := by
  induction rs with
  | nil => rfl
  | cons r rs ih =>
    rw [flat, List.count_append, ih (fun x hx => h x (by simp [hx])), List.count_cons]
    have h0 := h r (by simp)
    by_cases e : r = 10
    · subst e
      have : encB 10 = [10] := by decide
      rw [this]; simp; omega
    · have : (encB r).count 10 = 0 := List.count_eq_zero.2 (fun k => e ((ten_mem h0).1 k))
      rw [this]; simp [e]

theorem ten_flat {rs : List Int} (h : ∀ r ∈ rs, isPt r = true) (k : (10 : Int) ∉ rs) : (10 : Int) ∉ flat rs := by
  have := count_flat h
  rw [List.count_eq_zero.2 k] at this
  exact List.count_eq_zero.1 this

/-- the document's line and column behind code points -/
def scan : Int → Int → List Int → Int × Int
  | a, b, [] => (a, b)
  | a, b, r :: rs => if r = 10 then scan (a + 1) 1 rs else scan a (b + 1) rs

theorem scan_append (a b : Int) (xs ys : List Int) : scan a b (xs ++ ys) = scan (scan a b xs).1 (scan a b xs).2 ys := by
  induction xs generalizing a b with
  | nil => rfl
  | cons x xs ih =>
    simp only [List.cons_append, scan]
    split <;> exact ih _ _

theorem scan_none (a b : Int) {xs : List Int} (h : (10 : Int) ∉ xs) : scan a b xs = (a, b + xs.length) := by
  induction xs generalizing a b with
  | nil => simp [scan]
  | cons x xs ih =>
    have hx : x ≠ 10 := fun e => h (by simp [e])
    rw [scan, if_neg hx, ih _ _ (fun k => h (by simp [k]))]
    simp; omega

theorem scan_lines (a b : Int) (xs : List Int) : (scan a b xs).1 = a + xs.count 10 := by
  induction xs generalizing a b with
  | nil => simp [scan]
  | cons x xs ih =>
    rw [scan, List.count_cons]
    by_cases e : x = 10
    · rw [if_pos e, ih]; simp [e]; omega
    · rw [if_neg e, ih]; simp [e]

/-- behind the last line feed -/
theorem last_split (xs : List Int) (h : (10 : Int) ∈ xs) : ∃ a b, xs = a ++ 10 :: b ∧ (10 : Int) ∉ b := by
  induction xs with
  | nil => cases h
  | cons x xs ih =>
    by_cases k : (10 : Int) ∈ xs
    · obtain ⟨a, b, e, f⟩ := ih k
      exact ⟨x :: a, b, by simp [e], f⟩
    · have : x = 10 := by
        rcases List.mem_cons.1 h with e | e
        · exact e.symm
        · exact absurd e k
      exact ⟨[], xs, by simp [this], k⟩

/-- 'begin' is the place behind the last line feed of l. -/
def Begins (l : List Int) (g : Nat) : Prop := (g = 0 ∧ (10 : Int) ∉ l) ∨ ∃ a b, l = a ++ 10 :: b ∧ (10 : Int) ∉ b ∧ g = a.length + 1

theorem split_uniq {a b c d : List Int} (h : a ++ 10 :: b = c ++ 10 :: d) (hb : (10 : Int) ∉ b) (hd : (10 : Int) ∉ d) : a = c ∧ b = d := by
  rw [List.append_eq_append_iff] at h
  rcases h with ⟨u, h1, h2⟩ | ⟨u, h1, h2⟩
  · cases u with
    | nil => simp at h1 h2; exact ⟨h1.symm, h2⟩
    | cons x u =>
      simp at h2
      exact absurd (by rw [h2.2]; simp) hb
  · cases u with
    | nil => simp at h1 h2; exact ⟨h1, h2.symm⟩
    | cons x u =>
      simp at h2
      exact absurd (by rw [h2.2]; simp) hd

theorem place_eq {rs : List Int} (h : ∀ r ∈ rs, isPt r = true) {g : Nat} (hg : Begins (flat rs) g) :
    scan 1 1 rs = (((flat rs).count 10 : Int) + 1, ((run ((flat rs).drop g)).1.length : Int) + 1) := by
  have h1 := scan_lines 1 1 rs
  rw [count_flat h]
  by_cases k : (10 : Int) ∈ rs
  · obtain ⟨a, b, e, f⟩ := last_split rs k
    subst e
    have hb : ∀ r ∈ b, isPt r = true := fun r hr => h r (by simp [hr])
    have ef : flat (a ++ 10 :: b) = flat a ++ 10 :: flat b := by
      rw [flat_append]; simp [flat, show encB 10 = [10] from by decide]
    have hfb := ten_flat hb f
    rcases hg with ⟨_, hg⟩ | ⟨c, d, hg, hd, rfl⟩
    · exact absurd (by rw [ef]; simp) hg
    · rw [ef] at hg
      obtain ⟨rfl, rfl⟩ := split_uniq hg hfb hd
      rw [ef]
      have e2 : (flat a ++ 10 :: flat b).drop ((flat a).length + 1) = flat b := by
        rw [List.drop_append]; simp
      rw [e2, run_of_flat hb]
      refine Prod.ext ?_ ?_
      · rw [h1]; simp; omega
      · show (scan 1 1 (a ++ 10 :: b)).2 = _
        rw [scan_append, scan, if_pos rfl, scan_none _ _ f]
        simp; omega
  · have hf := ten_flat h k
    rcases hg with ⟨rfl, _⟩ | ⟨c, d, hg, hd, rfl⟩
    · rw [scan_none _ _ k, List.drop_zero, run_of_flat h, List.count_eq_zero.2 k]
      simp; omega
    · exact absurd (by rw [hg]; simp) hf
/-! ### the first byte -/
def leadN (c : Int) : Nat := if c < 128 then 1 else if c < 192 then 0 else if c < 224 then 2 else if c < 240 then 3 else if c < 248 then 4 else 0
def leadB (c : Int) : Int := if c < 128 then c else if c < 192 then 0 else if c < 224 then c % 32 else if c < 240 then c % 16 else if c < 248 then c % 8 else 0
def leadL (c : Int) : Int := if c < 128 then 0 else if c < 192 then 0 else if c < 224 then 128 else if c < 240 then 2048 else if c < 248 then 65536 else 0

/-- the bits of k bytes from q on behind r -/
def fld (l : List Int) (q : Nat) (r : Int) : Nat → Int
  | 0 => r
  | k + 1 => fld l q r k * 64 + l.getD (q + k) 0 % 64

theorem lead_cases (c : Int) (h0 : 0 ≤ c) (h1 : c ≤ 255) :
    (c < 128 ∧ leadN c = 1 ∧ leadB c = c ∧ leadL c = 0) ∨ (128 ≤ c ∧ c < 192 ∧ leadN c = 0 ∧ leadB c = 0 ∧ leadL c = 0) ∨
    (192 ≤ c ∧ c < 224 ∧ leadN c = 2 ∧ leadB c = c - 192 ∧ leadL c = 128) ∨ (224 ≤ c ∧ c < 240 ∧ leadN c = 3 ∧ leadB c = c - 224 ∧ leadL c = 2048) ∨
    (240 ≤ c ∧ c < 248 ∧ leadN c = 4 ∧ leadB c = c - 240 ∧ leadL c = 65536) ∨ (248 ≤ c ∧ leadN c = 0 ∧ leadB c = 0 ∧ leadL c = 0) := by
  unfold leadN leadB leadL
  by_cases a : c < 128
  · refine .inl ⟨a, ?_, ?_, ?_⟩ <;> simp [a]
  · by_cases b : c < 192
    · refine .inr (.inl ⟨by omega, b, ?_, ?_, ?_⟩) <;> simp [a, b]
    · by_cases d : c < 224
      · refine .inr (.inr (.inl ⟨by omega, d, ?_, ?_, ?_⟩)) <;> simp [a, b, d]
        omega
      · by_cases e : c < 240
        · refine .inr (.inr (.inr (.inl ⟨by omega, e, ?_, ?_, ?_⟩))) <;> simp [a, b, d, e]
          omega
        · by_cases f : c < 248
          · refine .inr (.inr (.inr (.inr (.inl ⟨by omega, f, ?_, ?_, ?_⟩)))) <;> simp [a, b, d, e, f]
            omega
          · refine .inr (.inr (.inr (.inr (.inr ⟨by omega, ?_, ?_, ?_⟩)))) <;> simp [a, b, d, e, f]

/-- What the first byte says of a code point that stands there. -/
theorem dec_lead {l : List Int} {p : Nat} {r : Int} (h : Dec l p r) (hb : ∀ i, i < l.length → 0 ≤ l.getD i 0 ∧ l.getD i 0 ≤ 255) :
    leadN (l.getD p 0) = (encB r).length ∧ p + leadN (l.getD p 0) ≤ l.length ∧ (∀ j, j + 1 < leadN (l.getD p 0) → l.getD (p + 1 + j) 0 / 64 = 2) ∧
    fld l (p + 1) (leadB (l.getD p 0)) (leadN (l.getD p 0) - 1) = r ∧ leadL (l.getD p 0) ≤ r := by
  have hf := h.fits
  have hl := (encB_len r).1
  have hp := isPt_iff.1 h.1
  have h0 := hb p (by omega)
  have hc := lead_cases (l.getD p 0) h0.1 h0.2
  rcases dec_bytes h with ⟨a, b, e⟩ | ⟨a, b, c, d, d', e⟩ | ⟨a, b, c, c', d, d', e⟩ | ⟨a, b, c, c', c'', d, e⟩
  · have hn : leadN (l.getD p 0) = 1 := by omega
    refine ⟨by omega, by omega, fun j hj => by omega, ?_, by omega⟩
    rw [hn]; show leadB _ = r; omega
  · have hn : leadN (l.getD p 0) = 2 := by omega
    refine ⟨by omega, by omega, fun j hj => ?_, ?_, by omega⟩
    · obtain rfl : j = 0 := by omega
      simp only [Nat.add_zero] at *; omega
    · rw [hn]; show leadB _ * 64 + l.getD (p + 1 + 0) 0 % 64 = r
      simp only [Nat.add_zero] at *; omega
  · have hn : leadN (l.getD p 0) = 3 := by omega
    refine ⟨by omega, by omega, fun j hj => ?_, ?_, by omega⟩
    · have : j = 0 ∨ j = 1 := by omega
      rcases this with rfl | rfl
      · simp only [Nat.add_zero] at *; omega
      · show l.getD (p + 2) 0 / 64 = 2; omega
    · rw [hn]; show (leadB _ * 64 + l.getD (p + 1) 0 % 64) * 64 + l.getD (p + 2) 0 % 64 = r
      omega
  · have hn : leadN (l.getD p 0) = 4 := by omega
    refine ⟨by omega, by omega, fun j hj => ?_, ?_, by omega⟩
    · have : j = 0 ∨ j = 1 ∨ j = 2 := by omega
      rcases this with rfl | rfl | rfl
      · simp only [Nat.add_zero] at *; omega
      · show l.getD (p + 2) 0 / 64 = 2; omega
      · show l.getD (p + 3) 0 / 64 = 2; omega
    · rw [hn]; show ((leadB _ * 64 + l.getD (p + 1) 0 % 64) * 64 + l.getD (p + 2) 0 % 64) * 64 + l.getD (p + 3) 0 % 64 = r
      omega

/-- ... and back. -/
theorem dec_of_lead {l : List Int} {p : Nat} (hlt : p < l.length) (hb : ∀ i, i < l.length → 0 ≤ l.getD i 0 ∧ l.getD i 0 ≤ 255)
    (hn : leadN (l.getD p 0) ≠ 0) (hf : p + leadN (l.getD p 0) ≤ l.length) (hj : ∀ j, j + 1 < leadN (l.getD p 0) → l.getD (p + 1 + j) 0 / 64 = 2)
    (hL : leadL (l.getD p 0) ≤ fld l (p + 1) (leadB (l.getD p 0)) (leadN (l.getD p 0) - 1)) (hp : isPt (fld l (p + 1) (leadB (l.getD p 0)) (leadN (l.getD p 0) - 1)) = true) :
    Dec l p (fld l (p + 1) (leadB (l.getD p 0)) (leadN (l.getD p 0) - 1)) := by
  have h0 := hb p (by omega)
  refine dec_mk hp ?_
  rcases lead_cases (l.getD p 0) h0.1 h0.2 with ⟨a, e1, e2, e3⟩ | ⟨a, a', e1, e2, e3⟩ | ⟨a, a', e1, e2, e3⟩ | ⟨a, a', e1, e2, e3⟩ | ⟨a, a', e1, e2, e3⟩ | ⟨a, e1, e2, e3⟩
  · rw [e1, e2]
    refine .inl ⟨by omega, rfl, a⟩
  · omega
  · have j0 := hj 0 (by omega)
    have hv : fld l (p + 1) (leadB (l.getD p 0)) (leadN (l.getD p 0) - 1) = leadB (l.getD p 0) * 64 + l.getD (p + 1) 0 % 64 := by rw [e1]; rfl
    rw [hv] at hL ⊢
    rw [Nat.add_zero] at j0
    refine .inr (.inl ?_)
    omega
  · have j0 := hj 0 (by omega)
    have j1 : l.getD (p + 2) 0 / 64 = 2 := hj 1 (by omega)
    have hv : fld l (p + 1) (leadB (l.getD p 0)) (leadN (l.getD p 0) - 1) = (leadB (l.getD p 0) * 64 + l.getD (p + 1) 0 % 64) * 64 + l.getD (p + 2) 0 % 64 := by rw [e1]; rfl
    rw [hv] at hL ⊢
    rw [Nat.add_zero] at j0
    refine .inr (.inr (.inl ?_))
    omega
  · have j0 := hj 0 (by omega)
    have j1 : l.getD (p + 2) 0 / 64 = 2 := hj 1 (by omega)
    have j2 : l.getD (p + 3) 0 / 64 = 2 := hj 2 (by omega)
    have hv : fld l (p + 1) (leadB (l.getD p 0)) (leadN (l.getD p 0) - 1) = ((leadB (l.getD p 0) * 64 + l.getD (p + 1) 0 % 64) * 64 + l.getD (p + 2) 0 % 64) * 64 + l.getD (p + 3) 0 % 64 := by rw [e1]; rfl
    rw [hv] at hL ⊢
    rw [Nat.add_zero] at j0
    refine .inr (.inr (.inr ?_))
    omega
  · omega

theorem fld_bd (l : List Int) (p : Nat) (hb : ∀ i, i < l.length → 0 ≤ l.getD i 0 ∧ l.getD i 0 ≤ 255) (h0 : p < l.length) :
    ∀ k, k + 1 ≤ leadN (l.getD p 0) → 0 ≤ fld l (p + 1) (leadB (l.getD p 0)) k ∧ fld l (p + 1) (leadB (l.getD p 0)) k < 2097152 := by
  have h0 := hb p h0
  intro k hk
  have h4 : k = 0 ∨ k = 1 ∨ k = 2 ∨ k = 3 := by rcases lead_cases (l.getD p 0) h0.1 h0.2 with a | a | a | a | a | a <;> omega
  rcases lead_cases (l.getD p 0) h0.1 h0.2 with a | a | a | a | a | a <;> rcases h4 with rfl | rfl | rfl | rfl <;> simp only [fld] <;> omega
/-! ### the document's way: try 1 to 4 bytes -/
def base : Nat → Int
  | 2 => 192
  | 3 => 224
  | 4 => 240
  | _ => 0
def cnd (l : List Int) (p : Nat) (r0 : Int) : Nat → Int
  | 0 => r0
  | k + 1 => 64 * cnd l p r0 k + l.getD (p + (k + 1)) 0 - 128
def cv (l : List Int) (p n : Nat) : Int := cnd l p (l.getD p 0 - base n) (n - 1)

theorem cnd_bd {l : List Int} {p : Nat} {r0 : Int} (h0 : -255 ≤ r0) (h1 : r0 ≤ 255) : ∀ k, k ≤ 3 → (∀ i, i < l.length → 0 ≤ l.getD i 0 ∧ l.getD i 0 ≤ 255) → p + k < l.length → -68000000 ≤ cnd l p r0 k ∧ cnd l p r0 k ≤ 68000000 := by
  intro k hk hb hp
  have h4 : k = 0 ∨ k = 1 ∨ k = 2 ∨ k = 3 := by omega
  rcases h4 with rfl | rfl | rfl | rfl
  · simp only [cnd]; omega
  · have := hb (p + 1) (by omega)
    simp only [cnd, Nat.zero_add]; omega
  · have := hb (p + 1) (by omega)
    have := hb (p + 2) (by omega)
    simp only [cnd, Nat.zero_add, Nat.reduceAdd]; omega
  · have := hb (p + 1) (by omega)
    have := hb (p + 2) (by omega)
    have := hb (p + 3) (by omega)
    simp only [cnd, Nat.zero_add, Nat.reduceAdd]; omega

theorem cv_of_dec {l : List Int} {p : Nat} {r : Int} (h : Dec l p r) : cv l p (encB r).length = r := by
  rcases dec_bytes h with ⟨a, b, e⟩ | ⟨a, b, c, d, d', e⟩ | ⟨a, b, c, c', d, d', e⟩ | ⟨a, b, c, c', c'', d, e⟩ <;> rw [e] <;> simp only [cv, cnd, base, Nat.add_one_sub_one, Nat.zero_add, Nat.reduceAdd] <;> omega

theorem cv_yes {l : List Int} {p n : Nat} (hf : p + n ≤ l.length) (h : isPt (cv l p n) = true) (he : encB (cv l p n) = (l.drop p).take n) : Dec l p (cv l p n) ∧ (encB (cv l p n)).length = n :=
  ⟨⟨h, (l.drop p).drop n, by rw [he, List.take_append_drop]⟩, by rw [he]; simp; omega⟩

theorem cv_no {l : List Int} {p n : Nat} (h : isPt (cv l p n) = false ∨ encB (cv l p n) ≠ (l.drop p).take n) : ∀ r, Dec l p r → (encB r).length ≠ n := by
  intro r hr e
  subst e
  rw [cv_of_dec hr] at h
  rcases h with h | h
  · rw [hr.1] at h; cases h
  · obtain ⟨_, t, ht⟩ := hr
    exact h (by rw [ht]; simp)

theorem none_of {l : List Int} {p n : Nat} (h : ∀ r, Dec l p r → n ≤ (encB r).length) (hn : 4 < n ∨ l.length < p + n) : decR l p = 0 ∧ decN l p = 0 :=
  dec_none fun r hr => by have := h r hr; have := hr.fits; have := (encB_len r).2; omega
end Go.Proofs.Ytmjijmkdeblefaa.RM
