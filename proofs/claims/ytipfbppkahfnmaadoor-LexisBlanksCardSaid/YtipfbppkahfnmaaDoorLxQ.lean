/- Plain lists for layer 2: the document's way through a text: code point by code point in remarks, sign by sign. Imports nothing of the program. -/
import Derived.Test.YtipfbppkahfnmaaDoorLxP
namespace Go.Proofs.YtipfbppkahfnmaaDoor.LM
open RM
set_option linter.unusedVariables false

/-! ### where code points end -/
theorem wk_char : ∀ (rs pre acc : List Int) (t : List Int) (f : Nat), (∀ r ∈ rs, isPt r = true) → (∀ r, ¬ Dec t 0 r) → (flat rs).length ≤ f →
    wk (pre ++ (flat rs ++ t)) f pre.length acc = (acc ++ rs, pre.length + (flat rs).length) := by
  intro rs
  induction rs with
  | nil =>
    intro pre acc t f _ ht _
    have h : decN (pre ++ (flat [] ++ t)) pre.length = 0 := (dec_none fun r hr => ht r (by
      obtain ⟨h1, u, hu⟩ := hr
      refine ⟨h1, u, ?_⟩
      simpa [flat] using hu)).2
    cases f with
    | zero => simp [wk, flat]
    | succ f => rw [wk, if_pos h]; simp [flat]
  | cons r rs ih =>
    intro pre acc t f hp ht hf
    have hd : Dec (pre ++ (flat (r :: rs) ++ t)) pre.length r := ⟨hp r (by simp), flat rs ++ t, by simp [flat]⟩
    have hl := (encB_len r).1
    have hfl : (flat (r :: rs)).length = (encB r).length + (flat rs).length := by simp [flat]
    cases f with
    | zero => omega
    | succ f =>
      rw [wk, if_neg (by rw [hd.n]; omega), hd.n, hd.r]
      have := ih (pre ++ encB r) (acc ++ [r]) t f (fun x hx => hp x (by simp [hx])) ht (by omega)
      have e : pre ++ (flat (r :: rs) ++ t) = (pre ++ encB r) ++ (flat rs ++ t) := by simp [flat]
      rw [e]
      simp only [List.length_append] at this
      rw [this]
      simp [flat, Nat.add_assoc]
theorem run_char {rs t : List Int} (h : ∀ r ∈ rs, isPt r = true) (ht : ∀ r, ¬ Dec t 0 r) : run (flat rs ++ t) = (rs, (flat rs).length) := by
  have := wk_char rs [] [] t (flat rs ++ t).length h ht (by simp)
  simpa [run] using this
theorem wk_end (l : List Int) : ∀ f p acc, l.length ≤ p + f → decN l (wk l f p acc).2 = 0 := by
  intro f
  induction f with
  | zero => intro p acc h; exact (decN_end (show l.length ≤ p by omega)).2
  | succ f ih =>
    intro p acc h
    rw [wk]
    by_cases hn : decN l p = 0
    · rw [if_pos hn]; exact hn
    · rw [if_neg hn]; exact ih _ _ (by omega)
theorem dec_zero {l : List Int} {p : Nat} {r : Int} : Dec (l.drop p) 0 r ↔ Dec l p r := by
  constructor
  · rintro ⟨h, t, e⟩; exact ⟨h, t, by simpa using e⟩
  · rintro ⟨h, t, e⟩; exact ⟨h, t, by simpa using e⟩
theorem decN_zero (l : List Int) (p : Nat) : decN (l.drop p) 0 = decN l p := by
  rcases dec_cases l p with ⟨r, h, _, h2⟩ | ⟨h, _, h2⟩
  · rw [h2, (dec_zero.2 h).n]
  · rw [h2]; exact (dec_none fun r hr => h r (dec_zero.1 hr)).2
theorem run_parts (m : List Int) : ∃ t, m = flat (run m).1 ++ t ∧ (∀ r ∈ (run m).1, isPt r = true) ∧ (∀ r, ¬ Dec t 0 r) ∧ (flat (run m).1).length = (run m).2 := by
  obtain ⟨h1, h2⟩ := run_flat m
  have h3 := (run_le m).1
  have h4 : decN m (run m).2 = 0 := wk_end m m.length 0 [] (by omega)
  refine ⟨m.drop (run m).2, by rw [h1, List.take_append_drop], h2, fun r hr => ?_, by rw [h1]; simp; omega⟩
  have := (dec_zero.1 hr).n
  have := (encB_len r).1
  omega
theorem run_cons {r : Int} (h : isPt r = true) (m : List Int) : (run (encB r ++ m)).2 = (encB r).length + (run m).2 := by
  obtain ⟨t, e, h1, h2, h3⟩ := run_parts m
  have := run_char (rs := r :: (run m).1) (t := t) (by intro x hx; rcases List.mem_cons.1 hx with rfl | hx; exact h; exact h1 x hx) h2
  have e' : flat (r :: (run m).1) ++ t = encB r ++ m := by
    conv => rhs; rw [e]
    simp [flat]
  rw [e'] at this
  rw [this]
  simp [flat, h3]
theorem wrL_cons {r : Int} (h : isPt r = true) (m : List Int) : wrL (encB r ++ m) = if 0 ≤ wrL m then (encB r).length + wrL m else -1 := by
  have h1 := run_cons h m
  have h2 := (run_le m).1
  unfold wrL
  rw [h1]
  by_cases hm : (run m).2 < m.length
  · rw [if_pos (by simp; omega), if_pos hm, if_pos (by omega)]
    rw [Int.natCast_add]
  · rw [if_neg (by simp; omega), if_neg hm, if_neg (by omega)]
theorem wrL_nil : wrL [] = -1 := by
  have := (run_le []).1
  unfold wrL
  rw [if_neg (by simp)]
theorem wrL_zero {l : List Int} (h0 : l ≠ []) (h : ∀ r, ¬ Dec l 0 r) : wrL l = 0 := by
  have := run_char (rs := []) (t := l) (by simp) h
  simp [flat] at this
  unfold wrL
  rw [this, if_pos (by simpa using List.length_pos_iff.2 h0)]
  rfl

/-! ### remarks, code point by code point -/
/-- Within a remark. -/
noncomputable def rmx (f : Nat) (l : List Int) (p : Int) : List Tok × Int × Int :=
  if 0 ≤ wrL (tw l) then ([], p + wrL (tw l), 3) else lx f (l.drop (tw l).length) (p + (tw l).length)
/-- Behind the tokens acc the place p is met, within a remark or not. -/
def RMet (l : List Int) (p : Nat) (acc : List Tok) (rem : Bool) : Prop :=
  (rem = false ∧ TMet l p acc) ∨ (rem = true ∧ ∃ f, l.length ≤ p + f ∧ p ≤ l.length ∧ toksV l = cat acc (rmx f (l.drop p) p))
theorem RMet.out {l : List Int} {p : Nat} {acc : List Tok} (h : RMet l p acc false) : TMet l p acc := by
  rcases h with ⟨_, h⟩ | ⟨h, _⟩
  · exact h
  · cases h
theorem RMet.mk {l : List Int} {p : Nat} {acc : List Tok} (h : TMet l p acc) : RMet l p acc false := .inl ⟨rfl, h⟩
theorem RMet.ins {l : List Int} {p : Nat} {acc : List Tok} (h : RMet l p acc true) : ∃ f, l.length ≤ p + f ∧ p ≤ l.length ∧ toksV l = cat acc (rmx f (l.drop p) p) := by
  rcases h with ⟨h, _⟩ | ⟨_, h⟩
  · cases h
  · exact h

theorem ascii {c : Int} (h0 : 0 ≤ c) (h1 : c < 128) : isPt c = true ∧ encB c = [c] := by
  refine ⟨isPt_iff.2 (by omega), ?_⟩
  unfold encB
  rw [if_pos h1]
theorem head_drop {l : List Int} {p : Nat} (h : p < l.length) : l.drop p = l.getD p 0 :: l.drop (p + 1) := drop_getD h
theorem dec_ascii {l : List Int} {p : Nat} (h : p < l.length) (h0 : 0 ≤ l.getD p 0) (h1 : l.getD p 0 < 128) : Dec l p (l.getD p 0) := by
  obtain ⟨e1, e2⟩ := ascii h0 h1
  exact ⟨e1, l.drop (p + 1), by rw [head_drop h, e2]; rfl⟩
theorem sort_ascii {c : Int} (h : sortV c ≠ 0) : 0 ≤ c ∧ c < 128 := by
  unfold sortV at h
  repeat' split at h
  all_goals omega

theorem tw_cons_ne {c : Int} {r : List Int} (h : c ≠ 10) : tw (c :: r) = c :: tw r := by
  unfold tw; rw [List.takeWhile_cons, if_pos (by simpa using h)]
theorem tw_cons_eq (r : List Int) : tw (10 :: r) = [] := by
  unfold tw; rw [List.takeWhile_cons]; rfl
theorem tw_app : ∀ (a r : List Int), (10 : Int) ∉ a → tw (a ++ r) = a ++ tw r := by
  intro a
  induction a with
  | nil => intro r _; rfl
  | cons c a ih =>
    intro r h
    have h1 : c ≠ 10 := fun e => h (by simp [e])
    rw [List.cons_append, tw_cons_ne h1, ih r (fun h' => h (by simp [h']))]
    rfl

theorem RMet.hash {l : List Int} {p : Nat} {acc : List Tok} (h : TMet l p acc) (hp : p < l.length) (hc : l.getD p 0 = 35) : RMet l (p + 1) acc true := by
  obtain ⟨f, h1, _, h2⟩ := h
  have hd := head_drop hp
  rw [hc] at hd
  have hs : sortV ((l.drop p).headD 0) = 2 := by rw [hd]; show sortV 35 = 2; decide
  have hx := piece_hash hs
  have ht : tw (l.drop p) = 35 :: tw (l.drop (p + 1)) := by rw [hd, tw_cons_ne (by decide)]
  obtain ⟨e1, e2⟩ := ascii (c := 35) (by decide) (by decide)
  have hw : wrL (tw (l.drop p)) = if 0 ≤ wrL (tw (l.drop (p + 1))) then 1 + wrL (tw (l.drop (p + 1))) else -1 := by
    rw [ht]
    have := wrL_cons e1 (tw (l.drop (p + 1)))
    rw [e2] at this
    simpa using this
  have hbd := wrL_bd (tw (l.drop (p + 1)))
  refine .inr ⟨rfl, ?_⟩
  cases f with
  | zero => omega
  | succ f =>
    refine ⟨f, by omega, by omega, ?_⟩
    unfold remV at hx
    unfold rmx
    by_cases hk : 0 ≤ wrL (tw (l.drop (p + 1)))
    · rw [if_pos hk] at hw
      rw [if_pos (by omega), hw] at hx
      rw [h2, lx_bad (drop_ne hp) hx (by decide), if_pos hk]
      congr 2
      rw [Int.natCast_add]
      congr 1
      omega
    · rw [if_neg hk] at hw
      rw [if_neg (by omega), ht] at hx
      rw [h2, lx_none (drop_ne hp) hx rfl, cat_cat, List.append_nil, if_neg hk, List.drop_drop, List.drop_drop]
      have e3 : (35 :: tw (l.drop (p + 1))).length = 1 + (tw (l.drop (p + 1))).length := by simp; omega
      rw [e3]
      congr 2
      · congr 1; omega
      · simp only [Int.natCast_add]; omega
theorem RMet.feed {l : List Int} {p : Nat} {acc : List Tok} (h : RMet l p acc true) (hp : p < l.length) (hc : l.getD p 0 = 10) : RMet l (p + 1) acc false := by
  obtain ⟨f, h1, _, h2⟩ := h.ins
  have hd := head_drop hp
  rw [hc] at hd
  have ht : tw (l.drop p) = [] := by rw [hd, tw_cons_eq]
  have hs : sortV ((l.drop p).headD 0) = 1 := by rw [hd]; show sortV 10 = 1; decide
  unfold rmx at h2
  rw [ht, wrL_nil, if_neg (by omega)] at h2
  simp only [List.length_nil, List.drop_zero] at h2
  refine .inl ⟨rfl, ?_⟩
  cases f with
  | zero => omega
  | succ f =>
    refine ⟨f, by omega, by omega, ?_⟩
    have hx : pieceV (l.drop p) = (zT, ((1 : Nat) : Int), 0) := piece_blank hs
    rw [h2]
    rw [show (p : Int) + ((0 : Nat) : Int) = p by omega]
    rw [lx_none (drop_ne hp) hx rfl, cat_cat, List.append_nil, List.drop_drop]
    rw [Int.natCast_add]
theorem RMet.wrong {l : List Int} {p : Nat} {acc : List Tok} (h : RMet l p acc true) (hp : p < l.length) (hd : ∀ r, ¬ Dec l p r) : toksV l = ([], (p : Int), 3) := by
  obtain ⟨f, h1, _, h2⟩ := h.ins
  have hc : l.getD p 0 ≠ 10 := fun e => hd _ (dec_ascii hp (by omega) (by omega))
  have ht : tw (l.drop p) ≠ [] := by rw [head_drop hp, tw_cons_ne hc]; simp
  have hw : wrL (tw (l.drop p)) = 0 := wrL_zero ht fun r hr => hd r (dec_zero.1 (by
    obtain ⟨a1, u, a2⟩ := hr
    refine ⟨a1, u ++ (l.drop p).drop (tw (l.drop p)).length, ?_⟩
    rw [List.drop_zero] at a2 ⊢
    have e : tw (l.drop p) ++ (l.drop p).drop (tw (l.drop p)).length = l.drop p := by
      have := List.take_append_drop (tw (l.drop p)).length (l.drop p)
      rw [← tw_take] at this
      exact this
    rw [← List.append_assoc, ← a2]
    exact e.symm))
  rw [h2]
  unfold rmx
  rw [hw]
  simp [cat]
theorem RMet.point {l : List Int} {p : Nat} {acc : List Tok} (h : RMet l p acc true) {r : Int} (hd : Dec l p r) (hr : r ≠ 10) : RMet l (p + (encB r).length) acc true := by
  obtain ⟨f, h1, _, h2⟩ := h.ins
  have hf := hd.fits
  obtain ⟨hpt, u, hu⟩ := hd
  have hdr : l.drop (p + (encB r).length) = u := by rw [← List.drop_drop, hu]; simp
  have ht : tw (l.drop p) = encB r ++ tw u := by rw [hu]; exact tw_app _ _ (fun h => hr ((ten_mem hpt).1 h))
  have hw := wrL_cons hpt (tw u)
  refine .inr ⟨rfl, f, by omega, hf, ?_⟩
  rw [h2]
  unfold rmx
  rw [ht, hw, hdr]
  have hbd := wrL_bd (tw u)
  by_cases hk : 0 ≤ wrL (tw u)
  · rw [if_pos hk, if_pos (by omega), if_pos hk]
    congr 2
    rw [Int.natCast_add]
    congr 1
    omega
  · rw [if_neg hk, if_neg (by omega), if_neg hk]
    congr 2
    · rw [List.length_append, ← List.drop_drop, hu]; simp
    · rw [List.length_append]; simp only [Int.natCast_add]; omega
theorem RMet.fin {l : List Int} {p : Nat} {acc : List Tok} {rem : Bool} (h : RMet l p acc rem) (hp : ¬ p < l.length) : toksV l = (acc ++ [⟨4, ⟨#[]⟩, 0, l.length⟩], 0, 0) := by
  cases rem with
  | false => exact h.out.fin hp
  | true =>
    obtain ⟨f, h1, h3, h2⟩ := h.ins
    obtain rfl : p = l.length := by omega
    rw [h2, List.drop_length]
    unfold rmx
    rw [show tw [] = [] from rfl, wrL_nil, if_neg (by omega)]
    simp only [List.length_nil, List.drop_nil]
    rw [lx_nil]
    simp [cat]

/-! ### signs, one after another -/
/-- Does a list begin with a sign? -/
def hit (l : List Int) (s : List UInt8) : Bool := decide (s.length ≤ l.length) && ((strOfNums (l.take s.length)).toList == s)
/-- The first sign that a list begins with; none: empty. -/
def sgn (l : List Int) : List UInt8 := (signL.find? (hit l)).getD []

theorem byte_eq (x : Int) (m : UInt8) (hx : 0 ≤ x ∧ x ≤ 255) : (UInt8.ofNat x.toNat == m) = (x == (m.toNat : Int)) := by
  rw [Bool.eq_iff_iff]
  simp only [beq_iff_eq]
  constructor
  · intro e
    have := congrArg UInt8.toNat e
    simp at this
    omega
  · intro e; subst e; simp
theorem hit_one {a : Int} (r : List Int) (m : UInt8) (ha : 0 ≤ a ∧ a ≤ 255) : hit (a :: r) [m] = (a == (m.toNat : Int)) := by
  unfold hit
  have e : (strOfNums ((a :: r).take 1)).toList = [UInt8.ofNat a.toNat] := by rw [ByteArray.toList_eq]; rfl
  show (decide (1 ≤ (a :: r).length) && ((strOfNums ((a :: r).take 1)).toList == [m])) = _
  rw [e, ← byte_eq a m ha]
  simp
theorem hit_two {a b : Int} (r : List Int) (m n : UInt8) (ha : 0 ≤ a ∧ a ≤ 255) (hb : 0 ≤ b ∧ b ≤ 255) : hit (a :: b :: r) [m, n] = (a == (m.toNat : Int) && b == (n.toNat : Int)) := by
  unfold hit
  have e : (strOfNums ((a :: b :: r).take 2)).toList = [UInt8.ofNat a.toNat, UInt8.ofNat b.toNat] := by rw [ByteArray.toList_eq]; rfl
  show (decide (2 ≤ (a :: b :: r).length) && ((strOfNums ((a :: b :: r).take 2)).toList == [m, n])) = _
  rw [e, ← byte_eq a m ha, ← byte_eq b n hb]
  simp
theorem hit_end (a : Int) (m n : UInt8) : hit [a] [m, n] = false := rfl

theorem sgn_one {a : Int} (ha : 0 ≤ a ∧ a ≤ 255) : sgn [a] = if sortV a = 3 then [UInt8.ofNat a.toNat] else [] := by
  by_cases h : sortV a = 3
  · rw [if_pos h]
    have h' : a = 40 ∨ a = 41 ∨ a = 123 ∨ a = 125 ∨ a = 60 ∨ a = 62 ∨ a = 61 ∨ a = 44 ∨ a = 58 ∨ a = 59 ∨ a = 124 ∨ a = 46 ∨ a = 92 ∨ a = 64 ∨ a = 94 ∨ a = 63 ∨ a = 43 ∨ a = 45 ∨ a = 42 ∨ a = 47 ∨ a = 37 := by
      unfold sortV at h
      repeat' split at h
      all_goals first | assumption | omega
    rcases h' with rfl | rfl | rfl | rfl | rfl | rfl | rfl | rfl | rfl | rfl | rfl | rfl | rfl | rfl | rfl | rfl | rfl | rfl | rfl | rfl | rfl <;> (unfold sgn signL; simp only [List.find?_cons, hit_end, hit_one _ _ ha]; rfl)
  · rw [if_neg h]
    have h' : a ≠ 40 ∧ a ≠ 41 ∧ a ≠ 123 ∧ a ≠ 125 ∧ a ≠ 60 ∧ a ≠ 62 ∧ a ≠ 61 ∧ a ≠ 44 ∧ a ≠ 58 ∧ a ≠ 59 ∧ a ≠ 124 ∧ a ≠ 46 ∧ a ≠ 92 ∧ a ≠ 64 ∧ a ≠ 94 ∧ a ≠ 63 ∧ a ≠ 43 ∧ a ≠ 45 ∧ a ≠ 42 ∧ a ≠ 47 ∧ a ≠ 37 := by
      refine ⟨?_, ?_, ?_, ?_, ?_, ?_, ?_, ?_, ?_, ?_, ?_, ?_, ?_, ?_, ?_, ?_, ?_, ?_, ?_, ?_, ?_⟩ <;> (rintro rfl; exact h (by decide))
    unfold sgn signL
    simp [hit_end, hit_one _ _ ha, h']
theorem sgn_two {a b : Int} (r : List Int) (ha : 0 ≤ a ∧ a ≤ 255) (hb : 0 ≤ b ∧ b ≤ 255) : sgn (a :: b :: r) = if two a b = true then [UInt8.ofNat a.toNat, UInt8.ofNat b.toNat] else sgn [a] := by
  by_cases h : two a b = true
  · rw [if_pos h]
    unfold two at h
    simp only [Bool.or_eq_true, Bool.and_eq_true, beq_iff_eq] at h
    unfold sgn signL
    simp only [List.find?_cons, hit_two _ _ _ ha hb]
    rcases h with ((⟨rfl, rfl⟩ | ⟨rfl, rfl⟩) | ⟨rfl, rfl⟩) | ⟨rfl, rfl⟩ <;> rfl
  · rw [if_neg h]
    unfold two at h
    simp only [Bool.or_eq_true, not_or, Bool.not_eq_true] at h
    obtain ⟨⟨⟨h1, h2⟩, h3⟩, h4⟩ := h
    have e1 : hit (a :: b :: r) [61, 61] = false := by rw [hit_two _ _ _ ha hb]; exact h1
    have e2 : hit (a :: b :: r) [61, 62] = false := by rw [hit_two _ _ _ ha hb]; exact h2
    have e3 : hit (a :: b :: r) [58, 61] = false := by rw [hit_two _ _ _ ha hb]; exact h3
    have e4 : hit (a :: b :: r) [45, 62] = false := by rw [hit_two _ _ _ ha hb]; exact h4
    have e5 : ∀ m, hit (a :: b :: r) [m] = hit [a] [m] := fun m => by rw [hit_one _ _ ha, hit_one _ _ ha]
    unfold sgn signL
    simp only [List.find?_cons, List.find?_nil, e1, e2, e3, e4, e5, hit_end]

theorem sgn_mark {l : List Int} (h0 : l ≠ []) (hb : ∀ x ∈ l, 0 ≤ x ∧ x ≤ 255) (h : sortV (l.headD 0) = 3) : (⟨(sgn l).toArray⟩ : ByteArray) = strOfNums (signV l) := by
  match l, h0 with
  | [a], _ =>
    have h' : sortV a = 3 := h
    rw [sgn_one (hb a (by simp)), if_pos h']; rfl
  | a :: b :: r, _ =>
    have h' : sortV a = 3 := h
    rw [sgn_two r (hb a (by simp)) (hb b (by simp)), signV_two]
    by_cases h2 : two a b = true
    · rw [if_pos h2, if_pos h2]; rfl
    · rw [if_neg h2, if_neg h2, sgn_one (hb a (by simp)), if_pos h']; rfl
theorem sgn_len {l : List Int} (h0 : l ≠ []) (hb : ∀ x ∈ l, 0 ≤ x ∧ x ≤ 255) (h : sortV (l.headD 0) = 3) : (sgn l).length = (signV l).length ∧ sgn l ≠ [] := by
  have e := congrArg ByteArray.size (sgn_mark h0 hb h)
  rw [strOfNums_size] at e
  have e' : (sgn l).length = (signV l).length := by simpa [ByteArray.size] using e
  refine ⟨e', fun h' => ?_⟩
  have := (signV_len h0).1
  rw [h'] at e'
  simp at e'
  omega
theorem sgn_other {l : List Int} (h0 : l ≠ []) (hb : ∀ x ∈ l, 0 ≤ x ∧ x ≤ 255) (h : sortV (l.headD 0) ≠ 3) : sgn l = [] := by
  match l, h0 with
  | [a], _ =>
    have h' : ¬ sortV a = 3 := h
    rw [sgn_one (hb a (by simp)), if_neg h']
  | a :: b :: r, _ =>
    have h' : ¬ sortV a = 3 := h
    rw [sgn_two r (hb a (by simp)) (hb b (by simp))]
    have h2 : ¬ two a b = true := by
      intro h2
      apply h'
      unfold two at h2
      simp only [Bool.or_eq_true, Bool.and_eq_true, beq_iff_eq] at h2
      rcases h2 with ((⟨rfl, rfl⟩ | ⟨rfl, rfl⟩) | ⟨rfl, rfl⟩) | ⟨rfl, rfl⟩ <;> decide
    rw [if_neg h2, sgn_one (hb a (by simp)), if_neg h']

theorem find_first {α : Type} (q : α → Bool) : ∀ (L : List α) (j : Nat) (hj : j < L.length), (∀ m (hm : m < L.length), m < j → q L[m] = false) → q L[j] = true → L.find? q = some L[j] := by
  intro L
  induction L with
  | nil => intro j hj; simp at hj
  | cons x r ih =>
    intro j hj h1 h2
    cases j with
    | zero => rw [List.find?_cons]; simp only [List.getElem_cons_zero] at h2 ⊢; rw [h2]
    | succ j =>
      have h0 := h1 0 (by simp) (by omega)
      simp only [List.getElem_cons_zero] at h0
      rw [List.find?_cons, h0]
      simp only [List.getElem_cons_succ] at h2 ⊢
      exact ih j (by simpa using hj) (fun m hm hmj => h1 (m + 1) (by simpa using hm) (by omega)) h2
theorem find_none {α : Type} (q : α → Bool) (L : List α) (h : ∀ m (hm : m < L.length), q L[m] = false) : L.find? q = none := by
  rw [List.find?_eq_none]
  intro x hx
  obtain ⟨m, hm, rfl⟩ := List.mem_iff_getElem.1 hx
  simp [h m hm]
theorem signL_len : signL.length = 25 := rfl
theorem signL_size : ∀ x ∈ signL, 1 ≤ x.length ∧ x.length ≤ 2 := by decide
theorem sign_hit {l : List Int} {j : Nat} (hj : j < signL.length) (h1 : ∀ m (hm : m < signL.length), m < j → hit l signL[m] = false) (h2 : hit l signL[j] = true) : sgn l = signL[j] ∧ sgn l ≠ [] := by
  have := find_first (hit l) signL j hj h1 h2
  have e : sgn l = signL[j] := by unfold sgn; rw [this]; rfl
  refine ⟨e, fun h => ?_⟩
  have := (signL_size signL[j] (List.getElem_mem hj)).1
  rw [← e, h] at this
  simp at this
theorem sign_yes {l : List Int} {p : Nat} {acc : List Tok} (h : TMet l p acc) (hp : p < l.length) (hb : ∀ x ∈ l.drop p, 0 ≤ x ∧ x ≤ 255) {fs : ByteArray} (hfs : fs = ⟨(sgn (l.drop p)).toArray⟩) (hne : sgn (l.drop p) ≠ []) :
    (fs.toList == []) = false ∧ 1 ≤ fs.size ∧ p + fs.size ≤ l.length ∧ TMet l (p + fs.size) (acc ++ [⟨3, fs, 0, (p : Int)⟩]) := by
  have h3 : sortV ((l.drop p).headD 0) = 3 := by
    by_cases h3 : sortV ((l.drop p).headD 0) = 3
    · exact h3
    · exact absurd (sgn_other (drop_ne hp) hb h3) hne
  have hm := sgn_mark (drop_ne hp) hb h3
  have hl := signV_len (drop_ne hp)
  have hx := piece_mark h3
  rw [hm] at hfs
  have hz : fs.size = (signV (l.drop p)).length := by rw [hfs, strOfNums_size]
  rw [← hfs, ← hz] at hx
  have hT := h.tok hp hx (by show (3 : Int) ≠ 0; decide)
  rw [List.length_drop] at hl
  refine ⟨?_, by omega, by omega, hT⟩
  rw [beq_eq_false_iff_ne]
  intro e
  have := congrArg List.length e
  rw [ByteArray.toList_eq] at this
  have h4 : fs.data.toList.length = fs.size := rfl
  simp only [List.length_nil] at this
  omega
theorem sign_no {l : List Int} {p : Nat} {acc : List Tok} (h : TMet l p acc) (hp : p < l.length) (hb : ∀ x ∈ l.drop p, 0 ≤ x ∧ x ≤ 255) {r : Int} (hd : Dec l p r) (hs : sortV (l.getD p 0) = 0 ∨ sortV (l.getD p 0) = 3)
    (hn : ∀ m (hm : m < signL.length), hit (l.drop p) signL[m] = false) : toksV l = ([], (p : Int), 4) := by
  have hH : (l.drop p).headD 0 = l.getD p 0 := by rw [head_drop hp]; rfl
  have he : sgn (l.drop p) = [] := by unfold sgn; rw [find_none _ _ hn]; rfl
  have h0 : sortV ((l.drop p).headD 0) = 0 := by
    rw [hH]
    rcases hs with hs | hs
    · exact hs
    · exact absurd he (sgn_len (drop_ne hp) hb (by rw [hH]; exact hs)).2
  have := h.bad hp (piece_strange h0 (by rw [decN_zero, hd.n]; have := (encB_len r).1; omega)) (by decide)
  simpa using this

theorem lx_codes (f : Nat) : ∀ (l : List Int) (p : Int), (lx f l p).2.2 = 0 ∨ (lx f l p).2.2 = 3 ∨ (lx f l p).2.2 = 4 ∨ (lx f l p).2.2 = 7 := by
  induction f with
  | zero => intro l p; exact .inl rfl
  | succ f ih =>
    intro l p
    rw [lx]
    by_cases h0 : l = []
    · rw [if_pos h0]; exact .inl rfl
    · rw [if_neg h0]
      by_cases h1 : (pieceV l).2.2 ≠ 0
      · rw [if_pos h1]
        have := (piece_place (t := (pieceV l).1) (x := (pieceV l).2.1) (c := (pieceV l).2.2) h0 rfl h1).2.2
        exact .inr this
      · rw [if_neg h1]
        simp only []
        by_cases h2 : (lx f (l.drop (pieceV l).2.1.toNat) (p + (pieceV l).2.1)).2.2 ≠ 0
        · rw [if_pos h2]; exact ih _ _
        · rw [if_neg h2]
          by_cases h3 : (pieceV l).1.kind ≠ 0
          · rw [if_pos h3]; exact .inl rfl
          · rw [if_neg h3]; exact ih _ _
theorem toks_codes (l : List Int) : (toksV l).2.2 = 0 ∨ (toksV l).2.2 = 3 ∨ (toksV l).2.2 = 4 ∨ (toksV l).2.2 = 7 := by
  unfold toksV
  split
  · exact .inr (.inr (.inr rfl))
  · exact lx_codes _ _ _
end Go.Proofs.YtipfbppkahfnmaaDoor.LM
