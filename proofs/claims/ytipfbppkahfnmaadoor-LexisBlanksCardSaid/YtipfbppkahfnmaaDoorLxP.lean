/- Plain lists for layer 2: the pieces of a text. Imports nothing of the program. -/
import Derived.Test.YtipfbppkahfnmaaDoorLxT
import Derived.Lib.Bytealg
import Derived.Lib.Bytes
namespace Go.Proofs.YtipfbppkahfnmaaDoor.LM
open RM
set_option linter.unusedVariables false

/-! ### remarks -/
/-- What stands ahead of the first line feed. -/
def tw (l : List Int) : List Int := l.takeWhile fun c => c != 10
theorem tw_take (l : List Int) : tw l = l.take (tw l).length := List.prefix_iff_eq_take.1 (List.takeWhile_prefix _)
theorem tw_le (l : List Int) : (tw l).length ≤ l.length := by
  have := congrArg List.length (tw_take l)
  simp at this
  omega
theorem tw_none {l : List Int} (h : (10 : Int) ∉ l) : tw l = l := by
  unfold tw
  induction l with
  | nil => rfl
  | cons c r ih =>
    have h1 : c ≠ 10 := fun e => h (by simp [e])
    rw [List.takeWhile_cons, if_pos (by simpa using h1), ih (fun h' => h (by simp [h']))]
theorem idx_tw : ∀ l : List Int, (∀ x ∈ l, 0 ≤ x ∧ x ≤ 255) → Go.Lib.indexByte (Go.Lib.bytesOf l) (10 : Int).toNat.toUInt8 = if (10 : Int) ∈ l then ((tw l).length : Int) else -1 := by
  intro l
  induction l with
  | nil => intro _; rfl
  | cons c r ih =>
    intro h
    have hc := h c (by simp)
    have ih := ih (fun x hx => h x (by simp [hx]))
    have e : (UInt8.ofNat c.toNat = 10) ↔ c = 10 := by
      constructor
      · intro e
        have := congrArg UInt8.toNat e
        simp at this
        omega
      · intro e; subst e; rfl
    have t : (10 : Int).toNat.toUInt8 = 10 := rfl
    show Go.Lib.indexByte (UInt8.ofNat c.toNat :: Go.Lib.bytesOf r) _ = _
    unfold tw at ih ⊢
    rw [Go.Lib.indexByte, ih, List.takeWhile_cons, t]
    by_cases hc10 : c = 10
    · subst hc10; simp
    · have h1 : ¬ (10 : Int) = c := fun e => hc10 e.symm
      have h2 : ¬ (UInt8.ofNat c.toNat = 10) := fun h => hc10 (e.1 h)
      by_cases hr : (10 : Int) ∈ r
      · simp [h1, h2, hr, hc10]
        try omega
      · simp [h1, h2, hr]

/-- The first wrong place, -1: none. -/
noncomputable def wrL (l : List Int) : Int := if (run l).2 < l.length then (run l).2 else -1
theorem wrL_bd (l : List Int) : -1 ≤ wrL l ∧ (0 ≤ wrL l → wrL l < l.length) := by
  unfold wrL; split <;> omega
/-- A remark: its length and 0; or how far on a wrong place stands, and 3. -/
noncomputable def remV (l : List Int) : Int × Int := if 0 ≤ wrL (tw l) then (wrL (tw l), 3) else ((tw l).length, 0)

/-! ### signs -/
def two (a b : Int) : Bool := (a == 61 && b == 61) || (a == 61 && b == 62) || (a == 58 && b == 61) || (a == 45 && b == 62)
/-- The sign that a list begins with. -/
def signV (l : List Int) : List Int := match l with
  | a :: b :: _ => if two a b = true then [a, b] else [a]
  | _ => l.take 1
theorem signV_two (a b : Int) (r : List Int) : signV (a :: b :: r) = if two a b = true then [a, b] else [a] := rfl
theorem signV_len {l : List Int} (h : l ≠ []) : 1 ≤ (signV l).length ∧ (signV l).length ≤ 2 ∧ (signV l).length ≤ l.length ∧ signV l = l.take (signV l).length := by
  match l, h with
  | [a], _ => exact ⟨Nat.le_refl _, by show 1 ≤ 2; omega, Nat.le_refl _, rfl⟩
  | a :: b :: r, _ =>
    rw [signV_two]
    split
    · exact ⟨by simp, by simp, by simp, rfl⟩
    · exact ⟨by simp, by simp, by simp, rfl⟩

/-- The run that a list begins with. -/
def runV (l : List Int) : List Int := l.takeWhile inRun
theorem runV_take (l : List Int) : runV l = l.take (runV l).length := List.prefix_iff_eq_take.1 (List.takeWhile_prefix _)
theorem runV_le (l : List Int) : (runV l).length ≤ l.length := by
  have := congrArg List.length (runV_take l)
  simp at this
  omega

/-! ### pieces -/
/-- What a list begins with: a token (of kind 0: none), and how many bytes it has, and 0; or how far on what is wrong stands, and why. -/
noncomputable def pieceV (l : List Int) : Tok × Int × Int :=
  let s := sortV (l.headD 0)
  if s = 1 then (zT, 1, 0)
  else if s = 2 then (zT, remV l)
  else if 4 ≤ s then (if (runTk (strOfNums (runV l))).2 = 0 then ((runTk (strOfNums (runV l))).1, (runV l).length, 0) else (zT, 0, (runTk (strOfNums (runV l))).2))
  else if s = 3 then (⟨3, strOfNums (signV l), 0, 0⟩, (signV l).length, 0)
  else if decN l 0 = 0 then (zT, 0, 3) else (zT, 0, 4)

theorem piece_blank {l : List Int} (h : sortV (l.headD 0) = 1) : pieceV l = (zT, 1, 0) := by unfold pieceV; simp only []; rw [if_pos h]
theorem piece_hash {l : List Int} (h : sortV (l.headD 0) = 2) : pieceV l = (zT, remV l) := by
  unfold pieceV; simp only []; rw [if_neg (by omega), if_pos h]
theorem piece_run {l : List Int} (h : 4 ≤ sortV (l.headD 0)) {t : Tok} (h1 : runTk (strOfNums (runV l)) = (t, 0)) : pieceV l = (t, ((runV l).length : Int), 0) := by
  unfold pieceV; simp only []; rw [if_neg (by omega), if_neg (by omega), if_pos h, h1, if_pos rfl]
theorem piece_norun {l : List Int} (h : 4 ≤ sortV (l.headD 0)) {c : Int} (h1 : (runTk (strOfNums (runV l))).2 = c) (h2 : c ≠ 0) : pieceV l = (zT, 0, c) := by
  unfold pieceV; simp only []; rw [if_neg (by omega), if_neg (by omega), if_pos h, h1, if_neg h2]
theorem piece_mark {l : List Int} (h : sortV (l.headD 0) = 3) : pieceV l = ((⟨3, strOfNums (signV l), 0, 0⟩ : Tok), ((signV l).length : Int), 0) := by
  unfold pieceV; simp only []; rw [if_neg (by omega), if_neg (by omega), if_neg (by omega), if_pos h]
theorem piece_utf {l : List Int} (h : sortV (l.headD 0) = 0) (h1 : decN l 0 = 0) : pieceV l = (zT, 0, 3) := by
  unfold pieceV; simp only []; rw [if_neg (by omega), if_neg (by omega), if_neg (by omega), if_neg (by omega), if_pos h1]
theorem piece_strange {l : List Int} (h : sortV (l.headD 0) = 0) (h1 : decN l 0 ≠ 0) : pieceV l = (zT, 0, 4) := by
  unfold pieceV; simp only []; rw [if_neg (by omega), if_neg (by omega), if_neg (by omega), if_neg (by omega), if_neg h1]

/-- The tokens of a list whose first byte stands at the place p; or the place of what is wrong, and why. -/
noncomputable def lx : Nat → List Int → Int → List Tok × Int × Int
  | 0, _, p => ([⟨4, ⟨#[]⟩, 0, p⟩], 0, 0)
  | f + 1, l, p =>
    if l = [] then ([⟨4, ⟨#[]⟩, 0, p⟩], 0, 0)
    else if (pieceV l).2.2 ≠ 0 then ([], p + (pieceV l).2.1, (pieceV l).2.2)
    else
      let r := lx f (l.drop (pieceV l).2.1.toNat) (p + (pieceV l).2.1)
      if r.2.2 ≠ 0 then r
      else if (pieceV l).1.kind ≠ 0 then ({ (pieceV l).1 with at_ := p } :: r.1, 0, 0)
      else r

/-- The tokens of a text; or the place of what is wrong, and why. -/
noncomputable def toksV (l : List Int) : List Tok × Int × Int := if 65536 < l.length then ([], 0, 7) else lx l.length l 0

def cat (acc : List Tok) (r : List Tok × Int × Int) : List Tok × Int × Int := if r.2.2 ≠ 0 then r else (acc ++ r.1, 0, 0)
theorem cat_cat (a b : List Tok) (r : List Tok × Int × Int) : cat a (cat b r) = cat (a ++ b) r := by
  unfold cat
  by_cases h : r.2.2 ≠ 0
  · rw [if_pos h, if_pos h, if_pos h]
  · rw [if_neg h, if_neg h]; simp

theorem lx_nil (f : Nat) (p : Int) : lx f [] p = ([⟨4, ⟨#[]⟩, 0, p⟩], 0, 0) := by cases f <;> simp [lx]
theorem lx_bad {f : Nat} {l : List Int} {p : Int} {t : Tok} {x c : Int} (h0 : l ≠ []) (h : pieceV l = (t, x, c)) (hc : c ≠ 0) : lx (f + 1) l p = ([], p + x, c) := by
  rw [lx, if_neg h0, h]; simp [hc]
theorem lx_code (f : Nat) : ∀ (l : List Int) (p : Int), (lx f l p).2.2 = 0 → (lx f l p).2.1 = 0 := by
  induction f with
  | zero => intro l p _; rfl
  | succ f ih =>
    intro l p h
    rw [lx] at h ⊢
    by_cases h0 : l = []
    · rw [if_pos h0]
    · rw [if_neg h0] at h ⊢
      by_cases h1 : (pieceV l).2.2 ≠ 0
      · rw [if_pos h1] at h; exact absurd h h1
      · rw [if_neg h1] at h ⊢
        simp only [] at h ⊢
        by_cases h2 : (lx f (l.drop (pieceV l).2.1.toNat) (p + (pieceV l).2.1)).2.2 ≠ 0
        · rw [if_pos h2] at h; exact absurd h h2
        · rw [if_neg h2] at h ⊢
          by_cases h3 : (pieceV l).1.kind ≠ 0
          · rw [if_pos h3]
          · rw [if_neg h3] at h ⊢
            exact ih _ _ h
theorem lx_none {f : Nat} {l : List Int} {p : Int} {t : Tok} {n : Nat} (h0 : l ≠ []) (h : pieceV l = (t, (n : Int), 0)) (ht : t.kind = 0) : lx (f + 1) l p = cat [] (lx f (l.drop n) (p + n)) := by
  rw [lx, if_neg h0, h]
  have hc := lx_code f (l.drop n) (p + n)
  unfold cat
  simp only [Int.toNat_natCast]
  generalize lx f (l.drop n) (p + n) = r at *
  obtain ⟨ts, x, c⟩ := r
  simp only [] at hc ⊢
  by_cases h2 : c ≠ 0
  · simp [h2]
  · have : c = 0 := by omega
    subst this
    have := hc rfl
    simp [ht, this]
theorem lx_tok {f : Nat} {l : List Int} {p : Int} {t : Tok} {n : Nat} (h0 : l ≠ []) (h : pieceV l = (t, (n : Int), 0)) (ht : t.kind ≠ 0) : lx (f + 1) l p = cat [{ t with at_ := p }] (lx f (l.drop n) (p + n)) := by
  rw [lx, if_neg h0, h]
  unfold cat
  simp [ht]

theorem piece_size {l : List Int} {t : Tok} {x : Int} (h0 : l ≠ []) (h : pieceV l = (t, x, 0)) : ∃ n : Nat, x = n ∧ 1 ≤ n ∧ n ≤ l.length := by
  have hpos : 0 < l.length := List.length_pos_iff.2 h0
  have hsb := sort_bd (l.headD 0)
  have hs : sortV (l.headD 0) = 0 ∨ sortV (l.headD 0) = 1 ∨ sortV (l.headD 0) = 2 ∨ sortV (l.headD 0) = 3 ∨ 4 ≤ sortV (l.headD 0) := by omega
  rcases hs with hs | hs | hs | hs | hs
  · by_cases hd : decN l 0 = 0
    · rw [piece_utf hs hd] at h
      have := congrArg (fun x => x.2.2) h
      simp at this
    · rw [piece_strange hs hd] at h
      have := congrArg (fun x => x.2.2) h
      simp at this
  · rw [piece_blank hs] at h
    have := congrArg (fun x => x.2.1) h
    exact ⟨1, this.symm, Nat.le_refl _, hpos⟩
  · rw [piece_hash hs] at h
    unfold remV at h
    split at h
    · have := congrArg (fun x => x.2.2) h
      simp at this
    · have := congrArg (fun x => x.2.1) h
      simp only [] at this
      refine ⟨(tw l).length, this.symm, ?_, tw_le l⟩
      obtain ⟨c, r, rfl⟩ := List.exists_cons_of_ne_nil h0
      have hc : c ≠ 10 := by
        intro e
        subst e
        revert hs
        show sortV 10 = 2 → False
        decide
      unfold tw
      rw [List.takeWhile_cons, if_pos (by simpa using hc)]
      simp
  · rw [piece_mark hs] at h
    have := congrArg (fun x => x.2.1) h
    have hl := signV_len h0
    exact ⟨_, this.symm, hl.1, hl.2.2.1⟩
  · rcases runTk_cases (strOfNums (runV l)) with ⟨h1, _⟩ | ⟨h1, h2⟩
    · rw [piece_run hs (t := (runTk (strOfNums (runV l))).1) (by rw [← h1])] at h
      have := congrArg (fun x => x.2.1) h
      refine ⟨_, this.symm, ?_, runV_le l⟩
      obtain ⟨c, r, rfl⟩ := List.exists_cons_of_ne_nil h0
      unfold runV
      rw [List.takeWhile_cons, if_pos (by unfold inRun; exact decide_eq_true hs)]
      simp
    · rw [piece_norun hs rfl (by omega)] at h
      have := congrArg (fun x => x.2.2) h
      simp at this
      omega
theorem piece_place {l : List Int} {t : Tok} {x c : Int} (h0 : l ≠ []) (h : pieceV l = (t, x, c)) (hc : c ≠ 0) : 0 ≤ x ∧ x < l.length ∧ (c = 3 ∨ c = 4 ∨ c = 7) := by
  have hpos : 0 < l.length := List.length_pos_iff.2 h0
  have hsb := sort_bd (l.headD 0)
  have hs : sortV (l.headD 0) = 0 ∨ sortV (l.headD 0) = 1 ∨ sortV (l.headD 0) = 2 ∨ sortV (l.headD 0) = 3 ∨ 4 ≤ sortV (l.headD 0) := by omega
  rcases hs with hs | hs | hs | hs | hs
  · by_cases hd : decN l 0 = 0
    · rw [piece_utf hs hd] at h
      cases h
      omega
    · rw [piece_strange hs hd] at h
      cases h
      omega
  · rw [piece_blank hs] at h
    cases h
    exact absurd rfl hc
  · rw [piece_hash hs] at h
    unfold remV at h
    split at h
    · cases h
      have h1 := wrL_bd (tw l)
      have h2 := tw_le l
      omega
    · cases h
      exact absurd rfl hc
  · rw [piece_mark hs] at h
    cases h
    exact absurd rfl hc
  · rcases runTk_cases (strOfNums (runV l)) with ⟨h1, _⟩ | ⟨h1, h2⟩
    · rw [piece_run hs (t := (runTk (strOfNums (runV l))).1) (by rw [← h1])] at h
      cases h
      exact absurd rfl hc
    · rw [piece_norun hs rfl (by omega)] at h
      cases h
      omega

/-- Behind the tokens acc the place p is met. -/
def TMet (l : List Int) (p : Nat) (acc : List Tok) : Prop := ∃ f, l.length ≤ p + f ∧ p ≤ l.length ∧ toksV l = cat acc (lx f (l.drop p) p)

theorem TMet.start {l : List Int} (h : l.length ≤ 65536) : TMet l 0 [] := by
  refine ⟨l.length, by omega, by omega, ?_⟩
  unfold toksV
  rw [if_neg (by omega)]
  have hc := lx_code l.length l 0
  unfold cat
  rw [List.drop_zero]
  show lx l.length l 0 = if (lx l.length l 0).2.2 ≠ 0 then lx l.length l 0 else ([] ++ (lx l.length l 0).1, 0, 0)
  generalize lx l.length l 0 = r at *
  obtain ⟨ts, x, c⟩ := r
  simp only [] at hc ⊢
  by_cases h2 : c ≠ 0
  · rw [if_pos h2]
  · have : c = 0 := by omega
    subst this
    rw [hc rfl]
    simp
theorem drop_ne {l : List Int} {p : Nat} (h : p < l.length) : l.drop p ≠ [] := by
  intro e
  have := congrArg List.length e
  simp at this
  omega
theorem TMet.bad {l : List Int} {p : Nat} {acc : List Tok} (h : TMet l p acc) (hp : p < l.length) {t : Tok} {x c : Int} (hx : pieceV (l.drop p) = (t, x, c)) (hc : c ≠ 0) : toksV l = ([], p + x, c) := by
  obtain ⟨f, h1, _, h2⟩ := h
  cases f with
  | zero => omega
  | succ f => rw [h2, lx_bad (drop_ne hp) hx hc]; simp [cat, hc]
theorem TMet.none {l : List Int} {p : Nat} {acc : List Tok} (h : TMet l p acc) (hp : p < l.length) {t : Tok} {n : Nat} (hx : pieceV (l.drop p) = (t, (n : Int), 0)) (ht : t.kind = 0) : TMet l (p + n) acc := by
  obtain ⟨f, h1, _, h2⟩ := h
  obtain ⟨m, hm, hm1, hm2⟩ := piece_size (drop_ne hp) hx
  obtain rfl : n = m := by omega
  simp at hm2
  cases f with
  | zero => omega
  | succ f =>
    refine ⟨f, by omega, by omega, ?_⟩
    rw [h2, lx_none (drop_ne hp) hx ht, cat_cat, List.append_nil, List.drop_drop]
    rw [Int.natCast_add]
theorem TMet.tok {l : List Int} {p : Nat} {acc : List Tok} (h : TMet l p acc) (hp : p < l.length) {t : Tok} {n : Nat} (hx : pieceV (l.drop p) = (t, (n : Int), 0)) (ht : t.kind ≠ 0) : TMet l (p + n) (acc ++ [{ t with at_ := (p : Int) }]) := by
  obtain ⟨f, h1, _, h2⟩ := h
  obtain ⟨m, hm, hm1, hm2⟩ := piece_size (drop_ne hp) hx
  obtain rfl : n = m := by omega
  simp at hm2
  cases f with
  | zero => omega
  | succ f =>
    refine ⟨f, by omega, by omega, ?_⟩
    rw [h2, lx_tok (drop_ne hp) hx ht, cat_cat, List.drop_drop]
    rw [Int.natCast_add]
theorem TMet.fin {l : List Int} {p : Nat} {acc : List Tok} (h : TMet l p acc) (hp : ¬ p < l.length) : toksV l = (acc ++ [⟨4, ⟨#[]⟩, 0, l.length⟩], 0, 0) := by
  obtain ⟨f, h1, h3, h2⟩ := h
  obtain rfl : p = l.length := by omega
  rw [h2, List.drop_length, lx_nil]
  rfl
end Go.Proofs.YtipfbppkahfnmaaDoor.LM
