/- Plain lists for layer 2: blanks and remarks between tokens change nothing but places. Imports nothing of the program. -/
import Derived.Test.YtipfbppkahfnmaaDoorLxQ
namespace Go.Proofs.YtipfbppkahfnmaaDoor.LM
open RM
set_option linter.unusedVariables false

/-- The list l, its first byte at the place p, is these tokens. -/
inductive Lexes : Nat → List Int → List Tok → Prop
  | nil (p : Nat) : Lexes p [] [⟨4, ⟨#[]⟩, 0, p⟩]
  | none {p n : Nat} {l : List Int} {t : Tok} {ts : List Tok} (h0 : l ≠ []) (h : pieceV l = (t, (n : Int), 0)) (ht : t.kind = 0) (hr : Lexes (p + n) (l.drop n) ts) : Lexes p l ts
  | tok {p n : Nat} {l : List Int} {t : Tok} {ts : List Tok} (h0 : l ≠ []) (h : pieceV l = (t, (n : Int), 0)) (ht : t.kind ≠ 0) (hr : Lexes (p + n) (l.drop n) ts) : Lexes p l ({ t with at_ := (p : Int) } :: ts)

theorem lexes_of (f : Nat) : ∀ (l : List Int) (p : Nat) (ts : List Tok) (x : Int), l.length ≤ f → lx f l p = (ts, x, 0) → Lexes p l ts := by
  induction f with
  | zero =>
    intro l p ts x hl h
    obtain rfl : l = [] := List.length_eq_zero_iff.1 (by omega)
    rw [lx_nil] at h
    cases h
    exact .nil p
  | succ f ih =>
    intro l p ts x hl h
    by_cases h0 : l = []
    · subst h0
      rw [lx_nil] at h
      cases h
      exact .nil p
    · obtain ⟨t, y, c⟩ : ∃ q : Tok × Int × Int, True := ⟨(zT, 0, 0), trivial⟩
      rcases hx : pieceV l with ⟨t, y, c⟩
      by_cases hc : c = 0
      · subst hc
        obtain ⟨n, rfl, hn1, hn2⟩ := piece_size h0 hx
        have hd : (l.drop n).length ≤ f := by simp; omega
        have hcat : ∀ acc, cat acc (lx f (l.drop n) ((p + n : Nat) : Int)) = (ts, x, 0) → ∃ us, ts = acc ++ us ∧ Lexes (p + n) (l.drop n) us := by
          intro acc e
          rcases hr : lx f (l.drop n) ((p + n : Nat) : Int) with ⟨us, z, d⟩
          rw [hr] at e
          unfold cat at e
          by_cases hd0 : d ≠ 0
          · rw [if_pos hd0] at e
            cases e
            exact absurd rfl hd0
          · obtain rfl : d = 0 := by omega
            rw [if_neg hd0] at e
            cases e
            exact ⟨us, rfl, ih _ _ us z hd hr⟩
        by_cases hk : t.kind = 0
        · rw [lx_none h0 hx hk, ← Int.natCast_add] at h
          obtain ⟨us, rfl, hu⟩ := hcat _ h
          exact .none h0 hx hk hu
        · rw [lx_tok h0 hx hk, ← Int.natCast_add] at h
          obtain ⟨us, rfl, hu⟩ := hcat _ h
          exact .tok h0 hx hk hu
      · rw [lx_bad h0 hx hc] at h
        cases h
        exact absurd rfl hc
theorem lexes_to {p : Nat} {l : List Int} {ts : List Tok} (h : Lexes p l ts) : ∀ f, l.length ≤ f → lx f l p = (ts, 0, 0) := by
  induction h with
  | nil p => intro f _; exact lx_nil f p
  | @none p n l t ts h0 h ht hr ih =>
    intro f hf
    obtain ⟨m, hm, hm1, hm2⟩ := piece_size h0 h
    obtain rfl : n = m := by omega
    cases f with
    | zero => omega
    | succ f =>
      rw [lx_none h0 h ht, ← Int.natCast_add, ih f (by simp; omega)]
      rfl
  | @tok p n l t ts h0 h ht hr ih =>
    intro f hf
    obtain ⟨m, hm, hm1, hm2⟩ := piece_size h0 h
    obtain rfl : n = m := by omega
    cases f with
    | zero => omega
    | succ f =>
      rw [lx_tok h0 h ht, ← Int.natCast_add, ih f (by simp; omega)]
      rfl

/-- The same but for places. -/
def same (a b : List Tok) : Prop := a.map (fun t => (t.kind, t.text, t.n)) = b.map (fun t => (t.kind, t.text, t.n))

theorem lexes_shift {p : Nat} {l : List Int} {ts : List Tok} (h : Lexes p l ts) : ∀ q, ∃ us, Lexes q l us ∧ same ts us := by
  induction h with
  | nil p => intro q; exact ⟨_, .nil q, rfl⟩
  | @none p n l t ts h0 h ht hr ih =>
    intro q
    obtain ⟨us, h1, h2⟩ := ih (q + n)
    exact ⟨us, .none h0 h ht h1, h2⟩
  | @tok p n l t ts h0 h ht hr ih =>
    intro q
    obtain ⟨us, h1, h2⟩ := ih (q + n)
    exact ⟨_, .tok h0 h ht h1, by unfold same at h2 ⊢; simp [h2]⟩

/-- The tokens' places. -/
theorem lexes_places {p : Nat} {l : List Int} {ts : List Tok} (h : Lexes p l ts) :
    ts ≠ [] ∧ ts.length ≤ l.length + 1 ∧ (∀ t ∈ ts, (p : Int) ≤ t.at_ ∧ t.at_ ≤ (p + l.length : Nat)) ∧ ts.Pairwise (fun a b => a.at_ < b.at_) := by
  induction h with
  | nil p => exact ⟨by simp, by simp, by simp, by simp⟩
  | @none p n l t ts h0 h ht hr ih =>
    obtain ⟨m, hm, hm1, hm2⟩ := piece_size h0 h
    obtain rfl : n = m := by omega
    obtain ⟨h1, h2, h3, h4⟩ := ih
    simp only [List.length_drop] at h2 h3
    exact ⟨h1, by omega, fun t ht => by have := h3 t ht; omega, h4⟩
  | @tok p n l t ts h0 h ht hr ih =>
    obtain ⟨m, hm, hm1, hm2⟩ := piece_size h0 h
    obtain rfl : n = m := by omega
    obtain ⟨h1, h2, h3, h4⟩ := ih
    simp only [List.length_drop] at h2 h3
    refine ⟨by simp, by simp; omega, fun t ht => ?_, List.pairwise_cons.2 ⟨fun b hb => ?_, h4⟩⟩
    · rcases List.mem_cons.1 ht with rfl | ht
      · show (p : Int) ≤ p ∧ (p : Int) ≤ _
        omega
      · have := h3 t ht; omega
    · have := h3 b hb
      show (p : Int) < b.at_
      omega

/-! ### what is skipped -/
/-- Whatever follows: this is no token. -/
def Skips (g : List Int) : Prop := ∀ q r ts, Lexes (q + g.length) r ts → Lexes q (g ++ r) ts
theorem skips_nil : Skips [] := fun q r ts h => h
theorem skips_app {a b : List Int} (ha : Skips a) (hb : Skips b) : Skips (a ++ b) := by
  intro q r ts h
  rw [List.append_assoc]
  refine ha q _ ts (hb _ r ts ?_)
  rw [Nat.add_assoc, ← List.length_append]
  exact h
theorem skips_blank {c : Int} (hc : sortV c = 1) : Skips [c] := by
  intro q r ts h
  exact .none (n := 1) (by simp) (piece_blank (l := [c] ++ r) hc) rfl h
theorem skips_remark {s g : List Int} (hs : sortV (s.headD 0) = 2) (h10 : (10 : Int) ∉ s) (hw : ¬ 0 ≤ wrL s) (hg : Skips (10 :: g)) : Skips (s ++ 10 :: g) := by
  intro q r ts h
  have e : s ++ 10 :: g ++ r = s ++ (10 :: g ++ r) := by simp
  rw [e]
  have ht : tw (s ++ (10 :: g ++ r)) = s := by rw [tw_app _ _ h10, List.cons_append, tw_cons_eq]; simp
  have h0 : s ≠ [] := by rintro rfl; revert hs; show sortV 0 = 2 → False; decide
  have hh : sortV ((s ++ (10 :: g ++ r)).headD 0) = 2 := by
    obtain ⟨c, x, rfl⟩ := List.exists_cons_of_ne_nil h0
    exact hs
  have hp := piece_hash hh
  unfold remV at hp
  rw [ht, if_neg hw] at hp
  refine .none (by simp) hp rfl ?_
  rw [List.drop_left]
  refine hg _ r ts ?_
  rw [Nat.add_assoc, ← List.length_append]
  exact h

/-- What may be put between tokens. -/
def Good (g : List Int) : Prop := Skips g ∧ ∀ c r, g = c :: r → sortV c = 1 ∨ sortV c = 2

/-! ### a token hangs on little that follows -/
theorem blank_two (a : Int) {c : Int} (h : sortV c = 1 ∨ sortV c = 2) : two a c = false := by
  have h1 : c ≠ 61 := by rintro rfl; revert h; decide
  have h2 : c ≠ 62 := by rintro rfl; revert h; decide
  unfold two
  simp [h1, h2]
theorem kind_sort {l : List Int} {t : Tok} {x : Int} (h0 : l ≠ []) (h : pieceV l = (t, x, 0)) : (t.kind = 0 ∧ (sortV (l.headD 0) = 1 ∨ sortV (l.headD 0) = 2)) ∨ (t.kind ≠ 0 ∧ 3 ≤ sortV (l.headD 0)) := by
  have hsb := sort_bd (l.headD 0)
  have hs : sortV (l.headD 0) = 0 ∨ sortV (l.headD 0) = 1 ∨ sortV (l.headD 0) = 2 ∨ sortV (l.headD 0) = 3 ∨ 4 ≤ sortV (l.headD 0) := by omega
  rcases hs with hs | hs | hs | hs | hs
  · by_cases hd : decN l 0 = 0
    · rw [piece_utf hs hd] at h; cases h
    · rw [piece_strange hs hd] at h; cases h
  · rw [piece_blank hs] at h; cases h; exact .inl ⟨rfl, .inl hs⟩
  · rw [piece_hash hs] at h; exact .inl ⟨congrArg (fun x => x.1.kind) h.symm, .inr hs⟩
  · rw [piece_mark hs] at h; cases h; exact .inr ⟨by show (3 : Int) ≠ 0; decide, by omega⟩
  · rcases runTk_cases (strOfNums (runV l)) with ⟨h1, h2⟩ | ⟨h1, h2⟩
    · rw [piece_run hs (t := (runTk (strOfNums (runV l))).1) (by rw [← h1])] at h
      cases h
      exact .inr ⟨by omega, by omega⟩
    · rw [piece_norun hs rfl (by omega)] at h
      simp only [Prod.mk.injEq] at h
      omega
theorem runV_app {s r : List Int} (hs : ∀ c ∈ s, inRun c = true) : runV (s ++ r) = s ++ runV r := by
  unfold runV
  rw [List.takeWhile_append_of_pos hs]
theorem piece_local {s r r' : List Int} {t : Tok} (h0 : s ≠ []) (h : pieceV (s ++ r) = (t, (s.length : Int), 0)) (ht : t.kind ≠ 0)
    (hh : r' = r ∨ (∃ c x y, r = c :: x ∧ r' = c :: y) ∨ (∃ c y, r' = c :: y ∧ (sortV c = 1 ∨ sortV c = 2))) : pieceV (s ++ r') = (t, (s.length : Int), 0) := by
  have h1 : s ++ r ≠ [] := by simp [h0]
  obtain ⟨a, s1, rfl⟩ := List.exists_cons_of_ne_nil h0
  rcases kind_sort h1 h with ⟨hk, _⟩ | ⟨_, hs⟩
  · exact absurd hk ht
  have hs' : 3 ≤ sortV a := hs
  by_cases h4 : 4 ≤ sortV a
  · have ha : 4 ≤ sortV (((a :: s1) ++ r).headD 0) := h4
    have ha' : 4 ≤ sortV (((a :: s1) ++ r').headD 0) := h4
    have hrun : runTk (strOfNums (runV ((a :: s1) ++ r))) = (t, 0) ∧ (runV ((a :: s1) ++ r)).length = (a :: s1).length := by
      rcases runTk_cases (strOfNums (runV ((a :: s1) ++ r))) with ⟨g1, g2⟩ | ⟨g1, g2⟩
      · rw [piece_run ha (t := (runTk (strOfNums (runV ((a :: s1) ++ r)))).1) (by rw [← g1])] at h
        simp only [Prod.mk.injEq] at h
        refine ⟨?_, by omega⟩
        rw [← h.1, ← g1]
      · rw [piece_norun ha rfl (by omega)] at h
        simp only [Prod.mk.injEq] at h
        omega
    obtain ⟨hr1, hr2⟩ := hrun
    have hv : runV ((a :: s1) ++ r) = a :: s1 := by
      rw [runV_take, hr2, List.take_left]
    have hall : ∀ c ∈ a :: s1, inRun c = true := by
      intro c hc
      rw [← hv] at hc
      exact List.all_eq_true.1 (List.all_takeWhile) c hc
    have hr0 : runV r = [] := by
      rw [runV_app hall] at hv
      simpa using hv
    have hr0' : runV r' = [] := by
      rcases hh with rfl | ⟨c, x, y, rfl, rfl⟩ | ⟨c, y, rfl, hc⟩
      · exact hr0
      · unfold runV at hr0 ⊢
        rw [List.takeWhile_cons] at hr0 ⊢
        split at hr0
        · cases hr0
        · rename_i hc; rw [if_neg hc]
      · unfold runV
        rw [List.takeWhile_cons, if_neg (by unfold inRun; simp; omega)]
    have hv' : runV ((a :: s1) ++ r') = a :: s1 := by rw [runV_app hall, hr0', List.append_nil]
    rw [hv] at hr1
    rw [piece_run ha' (t := t) (by rw [hv', hr1]), hv']
  · have h3 : sortV a = 3 := by omega
    have ha : sortV (((a :: s1) ++ r).headD 0) = 3 := h3
    have ha' : sortV (((a :: s1) ++ r').headD 0) = 3 := h3
    rw [piece_mark ha] at h
    simp only [Prod.mk.injEq] at h
    obtain ⟨e1, e2, _⟩ := h
    have e2' : (signV ((a :: s1) ++ r)).length = (a :: s1).length := by omega
    have hsg : signV ((a :: s1) ++ r') = signV ((a :: s1) ++ r) := by
      match s1, r, hh, e2' with
      | [], [], hh, _ =>
        rcases hh with rfl | ⟨c, x, y, h1, _⟩ | ⟨c, y, rfl, hc⟩
        · rfl
        · cases h1
        · show signV (a :: c :: y) = _
          rw [signV_two, if_neg (by rw [blank_two a hc]; simp)]
          rfl
      | [], c :: x, hh, e2' =>
        have hn : two a c = false := by
          have e2'' : (signV (a :: c :: x)).length = 1 := e2'
          rw [signV_two] at e2''
          by_cases hn : two a c = true
          · rw [if_pos hn] at e2''; simp at e2''
          · simpa using hn
        have e3 : signV (a :: c :: x) = [a] := by rw [signV_two, if_neg (by rw [hn]; simp)]
        show signV (a :: r') = signV (a :: c :: x)
        rw [e3]
        rcases hh with rfl | ⟨c', x', y, h1, rfl⟩ | ⟨c', y, rfl, hc⟩
        · exact e3
        · cases h1
          rw [signV_two, if_neg (by rw [hn]; simp)]
        · rw [signV_two, if_neg (by rw [blank_two a hc]; simp)]
      | [b], r, hh, e2' =>
        show signV (a :: b :: r') = signV (a :: b :: r)
        rw [signV_two, signV_two]
      | b :: c :: s2, r, hh, e2' =>
        have := (signV_len (l := (a :: b :: c :: s2) ++ r) (by simp)).2.1
        rw [e2'] at this
        simp at this
    rw [piece_mark ha', hsg, e1, e2']

/-! ### the text put together anew -/
/-- From the j-th token on: what stands from each token to the next, bt ahead of it. -/
def segs (L : List Int) (bt : Nat → List Int) : Nat → List Tok → List Int
  | _, [] => []
  | _, [_] => []
  | j, t :: u :: r => bt j ++ ((L.drop t.at_.toNat).take (u.at_.toNat - t.at_.toNat) ++ segs L bt (j + 1) (u :: r))

theorem segs_same {L : List Int} {bt : Nat → List Int} (hbt : ∀ j, Good (bt j)) {p : Nat} {l : List Int} {ts : List Tok} (h : Lexes p l ts) : l = L.drop p → p ≤ L.length →
    ∃ u us g, ts = u :: us ∧ l = g ++ L.drop u.at_.toNat ∧ u.at_ = ((p + g.length : Nat) : Int) ∧ (us = [] → L.drop u.at_.toNat = []) ∧
      (us ≠ [] → Skips g ∧ L.drop u.at_.toNat ≠ [] ∧ 3 ≤ sortV ((L.drop u.at_.toNat).headD 0) ∧ ∀ v vs, us = v :: vs → u.at_ < v.at_) ∧
      ∀ j q, ∃ ts', Lexes q (segs L bt j ts) ts' ∧ same ts ts' := by
  induction h with
  | nil p =>
    intro hl hp
    refine ⟨_, [], [], rfl, ?_, rfl, fun _ => ?_, fun h => absurd rfl h, fun j q => ⟨_, .nil q, rfl⟩⟩
    · simpa using hl
    · simpa using hl.symm
  | @none p n l t ts h0 h ht hr ih =>
    intro hl hp
    obtain ⟨m, hm, hm1, hm2⟩ := piece_size h0 h
    obtain rfl : n = m := by omega
    have hlen : l.length = L.length - p := by rw [hl]; simp
    obtain ⟨u, us, g, e1, e2, e3, e4, e5, e6⟩ := ih (by rw [hl, List.drop_drop]) (by omega)
    have htk : (l.take n).length = n := by simp; omega
    refine ⟨u, us, l.take n ++ g, e1, ?_, ?_, e4, fun hu => ?_, e6⟩
    · rw [List.append_assoc, ← e2, List.take_append_drop]
    · rw [e3, List.length_append, htk, Nat.add_assoc]
    · obtain ⟨hsk, hne, hso, hlt⟩ := e5 hu
      refine ⟨?_, hne, hso, hlt⟩
      rcases kind_sort h0 h with ⟨_, hs⟩ | ⟨hk, _⟩
      · obtain ⟨a, l1, rfl⟩ := List.exists_cons_of_ne_nil h0
        rcases hs with hs | hs
        · rw [piece_blank hs] at h
          simp only [Prod.mk.injEq] at h
          obtain rfl : n = 1 := by omega
          exact skips_app (skips_blank hs) hsk
        · rw [piece_hash hs] at h
          simp only [Prod.mk.injEq] at h
          have hrem := h.2
          unfold remV at hrem
          by_cases hw : 0 ≤ wrL (tw (a :: l1))
          · rw [if_pos hw] at hrem
            have := congrArg Prod.snd hrem
            simp at this
          · rw [if_neg hw] at hrem
            simp only [Prod.mk.injEq] at hrem
            have hn : (tw (a :: l1)).length = n := by omega
            have htw : (a :: l1).take n = tw (a :: l1) := by rw [← hn]; exact (tw_take _).symm
            have h10 : (10 : Int) ∉ tw (a :: l1) := by
              intro h
              have := List.all_eq_true.1 (List.all_takeWhile (p := fun c : Int => c != 10)) 10 h
              simp at this
            -- a line feed follows
            have hfeed : ∃ r, (a :: l1).drop n = 10 :: r := by
              have hd : (a :: l1).drop n ≠ [] := by
                rw [e2]
                intro e
                exact hne (List.append_eq_nil_iff.1 e).2
              obtain ⟨c, r, hcr⟩ := List.exists_cons_of_ne_nil hd
              refine ⟨r, ?_⟩
              have hsp : a :: l1 = tw (a :: l1) ++ (c :: r) := by rw [← hcr, ← htw, List.take_append_drop]
              by_cases hc : c = 10
              · rw [hcr, hc]
              · exfalso
                have h2 : tw (tw (a :: l1) ++ (c :: r)) = tw (a :: l1) ++ tw (c :: r) := tw_app _ _ h10
                rw [← hsp, tw_cons_ne hc] at h2
                have := congrArg List.length h2
                simp at this
            obtain ⟨r, hfeed⟩ := hfeed
            obtain ⟨g2, rfl⟩ : ∃ g2, g = 10 :: g2 := by
              cases g with
              | nil =>
                rw [hfeed] at e2
                rw [List.nil_append] at e2
                rw [← e2] at hso
                revert hso
                show 3 ≤ sortV 10 → _
                intro h
                exact absurd h (by decide)
              | cons c g2 =>
                rw [hfeed] at e2
                injection e2 with e2 _
                exact ⟨g2, by rw [← e2]⟩
            rw [htw]
            refine skips_remark ?_ h10 hw hsk
            have ha : a ≠ 10 := by
              rintro rfl
              revert hs
              show sortV 10 = 2 → False
              decide
            rw [tw_cons_ne ha]
            exact hs
      · exact absurd ht hk
  | @tok p n l t ts h0 h ht hr ih =>
    intro hl hp
    obtain ⟨m, hm, hm1, hm2⟩ := piece_size h0 h
    obtain rfl : n = m := by omega
    have hlen : l.length = L.length - p := by rw [hl]; simp
    obtain ⟨u, us, g, e1, e2, e3, e4, e5, e6⟩ := ih (by rw [hl, List.drop_drop]) (by omega)
    have htk : (l.take n).length = n := by simp; omega
    have hso : 3 ≤ sortV (l.headD 0) := by
      rcases kind_sort h0 h with ⟨hk, _⟩ | ⟨_, hs⟩
      · exact absurd hk ht
      · exact hs
    refine ⟨_, ts, [], rfl, ?_, rfl, fun hu => ?_, fun _ => ⟨skips_nil, ?_, ?_, fun v vs hv => ?_⟩, fun j q => ?_⟩
    · show l = [] ++ L.drop p
      rw [List.nil_append, hl]
    · rw [hu] at e1; cases e1
    · show L.drop p ≠ []
      rw [← hl]; exact h0
    · show 3 ≤ sortV ((L.drop p).headD 0)
      rw [← hl]; exact hso
    · rw [e1] at hv
      cases hv
      show (p : Int) < u.at_
      omega
    · subst e1
      have hu2 : u.at_.toNat = p + n + g.length := by rw [e3, Int.toNat_natCast]
      have hseg : (L.drop p).take (u.at_.toNat - p) = l.take n ++ g := by
        rw [← hl, hu2, show p + n + g.length - p = n + g.length by omega]
        have hsp : l = (l.take n ++ g) ++ L.drop u.at_.toNat := by rw [List.append_assoc, ← e2, List.take_append_drop]
        conv => lhs; rw [hsp]
        rw [List.take_left' (by rw [List.length_append, htk])]
      have hseg2 : segs L bt j ({ t with at_ := (p : Int) } :: u :: us) = bt j ++ (l.take n ++ (g ++ segs L bt (j + 1) (u :: us))) := by
        show bt j ++ ((L.drop p).take (u.at_.toNat - p) ++ segs L bt (j + 1) (u :: us)) = _
        rw [hseg, List.append_assoc]
      have hhead : g ++ segs L bt (j + 1) (u :: us) = l.drop n ∨ (∃ c x y, l.drop n = c :: x ∧ g ++ segs L bt (j + 1) (u :: us) = c :: y) ∨ (∃ c y, g ++ segs L bt (j + 1) (u :: us) = c :: y ∧ (sortV c = 1 ∨ sortV c = 2)) := by
        cases g with
        | cons c g2 => exact .inr (.inl ⟨c, _, _, e2, rfl⟩)
        | nil =>
          rw [List.nil_append] at e2 ⊢
          cases us with
          | nil => exact .inl (by rw [e2, e4 rfl]; rfl)
          | cons v vs =>
            obtain ⟨_, hne, hs3, hlt⟩ := e5 (by simp)
            have hlt := hlt v vs rfl
            obtain ⟨c, x, hcx⟩ := List.exists_cons_of_ne_nil hne
            have e : segs L bt (j + 1) (u :: v :: vs) = bt (j + 1) ++ ((L.drop u.at_.toNat).take (v.at_.toNat - u.at_.toNat) ++ segs L bt (j + 1 + 1) (v :: vs)) := rfl
            rw [e]
            have hg := (hbt (j + 1)).2
            cases hb : bt (j + 1) with
            | cons d y => exact .inr (.inr ⟨d, _, rfl, hg d y hb⟩)
            | nil =>
              obtain ⟨k, hk⟩ : ∃ k, v.at_.toNat - u.at_.toNat = k + 1 := ⟨v.at_.toNat - u.at_.toNat - 1, by omega⟩
              exact .inr (.inl ⟨c, x, _, by rw [e2, hcx], by rw [hk, hcx]; rfl⟩)
      have hpl := piece_local (s := l.take n) (r := l.drop n) (r' := g ++ segs L bt (j + 1) (u :: us)) (t := t) (by intro e; rw [e] at htk; simp at htk; omega) (by rw [List.take_append_drop, htk]; exact h) ht hhead
      rw [htk] at hpl
      have hrest : ∃ ts', Lexes (q + (bt j).length + n) (g ++ segs L bt (j + 1) (u :: us)) ts' ∧ same (u :: us) ts' := by
        cases us with
        | nil =>
          have e : g ++ segs L bt (j + 1) [u] = l.drop n := by rw [e2, e4 rfl]; rfl
          rw [e]
          exact lexes_shift hr _
        | cons v vs =>
          obtain ⟨hsk, _⟩ := e5 (by simp)
          obtain ⟨ts', h1, h2⟩ := e6 (j + 1) (q + (bt j).length + n + g.length)
          exact ⟨ts', hsk _ _ _ h1, h2⟩
      obtain ⟨ts', h1, h2⟩ := hrest
      refine ⟨{ t with at_ := ((q + (bt j).length : Nat) : Int) } :: ts', ?_, by unfold same at h2 ⊢; simp [h2]⟩
      rw [hseg2]
      refine (hbt j).1 _ _ _ (.tok (n := n) (by intro e; have := (List.append_eq_nil_iff.1 e).1; rw [this] at htk; simp at htk; omega) hpl ht ?_)
      rw [List.drop_left' htk]
      exact h1
theorem segs_len {L : List Int} {bt : Nat → List Int} (hbt : ∀ j, (bt j).length ≤ 9) {M : Nat} : ∀ (r : List Tok) (t : Tok) (j : Nat), (t :: r).Pairwise (fun a b => a.at_ < b.at_) → (∀ u ∈ t :: r, 0 ≤ u.at_ ∧ u.at_ ≤ M) →
    (segs L bt j (t :: r)).length ≤ 9 * r.length + (M - t.at_.toNat) := by
  intro r
  induction r with
  | nil => intro t j _ _; simp [segs]
  | cons u r ih =>
    intro t j hp hb
    obtain ⟨h1, h2⟩ := List.pairwise_cons.1 hp
    have := ih u (j + 1) h2 (fun x hx => hb x (by simp [hx]))
    have h3 := h1 u (by simp)
    have h4 := hb u (by simp)
    have h5 := hb t (by simp)
    have h6 := hbt j
    show (bt j ++ ((L.drop t.at_.toNat).take (u.at_.toNat - t.at_.toNat) ++ segs L bt (j + 1) (u :: r))).length ≤ _
    simp only [List.length_append, List.length_take, List.length_drop, List.length_cons]
    omega

/-! ### what the law puts between -/
def between : List (List Int) := [[], [32], [10], [35, 120, 10], [9, 35, 32, 195, 169, 32, 35, 10, 13]]
/-- What stands ahead of the j-th token. -/
def btw (z : List Int) (j : Nat) : List Int := if j < z.length then between.getD (z.getD j 0 % 5).toNat [] else []

theorem wr_ascii {c : Int} (h0 : 0 ≤ c) (h1 : c < 128) {m : List Int} (h : ¬ 0 ≤ wrL m) : ¬ 0 ≤ wrL (c :: m) := by
  obtain ⟨e1, e2⟩ := ascii h0 h1
  have := wrL_cons e1 m
  rw [e2, if_neg h] at this
  rw [show c :: m = [c] ++ m from rfl, this]
  decide
theorem wr_nil : ¬ 0 ≤ wrL [] := by rw [wrL_nil]; decide
theorem wr_e {m : List Int} (h : ¬ 0 ≤ wrL m) : ¬ 0 ≤ wrL (195 :: 169 :: m) := by
  have e1 : isPt 233 = true := isPt_iff.2 (by omega)
  have e2 : encB 233 = [195, 169] := by decide
  have := wrL_cons e1 m
  rw [e2, if_neg h] at this
  rw [show (195 : Int) :: 169 :: m = [195, 169] ++ m from rfl, this]
  decide
theorem good_between : ∀ g ∈ between, Good g ∧ g.length ≤ 9 := by
  intro g hg
  simp only [between, List.mem_cons, List.not_mem_nil, or_false] at hg
  have hlf : Skips [10] := skips_blank (by decide)
  rcases hg with rfl | rfl | rfl | rfl | rfl
  · exact ⟨⟨skips_nil, fun c r h => by cases h⟩, by decide⟩
  · exact ⟨⟨skips_blank (by decide), fun c r h => by cases h; exact .inl (by decide)⟩, by decide⟩
  · exact ⟨⟨hlf, fun c r h => by cases h; exact .inl (by decide)⟩, by decide⟩
  · exact ⟨⟨skips_remark (s := [35, 120]) (g := []) (by decide) (by decide) (wr_ascii (by decide) (by decide) (wr_ascii (by decide) (by decide) wr_nil)) hlf, fun c r h => by cases h; exact .inr (by decide)⟩, by decide⟩
  · refine ⟨⟨?_, fun c r h => by cases h; exact .inl (by decide)⟩, by decide⟩
    refine skips_app (a := [9]) (skips_blank (by decide)) (skips_remark (s := [35, 32, 195, 169, 32, 35]) (g := [13]) (by decide) (by decide) ?_ (skips_app (a := [10]) hlf (skips_blank (by decide))))
    exact wr_ascii (by decide) (by decide) (wr_ascii (by decide) (by decide) (wr_e (wr_ascii (by decide) (by decide) (wr_ascii (by decide) (by decide) wr_nil))))
theorem btw_good (z : List Int) (j : Nat) : Good (btw z j) ∧ (btw z j).length ≤ 9 := by
  unfold btw
  split
  · by_cases h : (z.getD j 0 % 5).toNat < between.length
    · rw [List.getD_eq_getElem?_getD, List.getElem?_eq_getElem h]
      exact good_between _ (List.getElem_mem h)
    · rw [List.getD_eq_getElem?_getD, List.getElem?_eq_none (by omega)]
      exact good_between [] (by simp [between])
  · exact good_between [] (by simp [between])
theorem btw_in {z : List Int} {j : Nat} (h : j < z.length) : btw z j = between.getD (z.getD j 0 % 5).toNat [] := by unfold btw; rw [if_pos h]
theorem btw_out {z : List Int} {j : Nat} (h : ¬ j < z.length) : btw z j = [] := by unfold btw; rw [if_neg h]

/-- THE LAW's text: the same tokens. -/
theorem blanks {L z : List Int} {ts : List Tok} {x : Int} (hL : L.length ≤ 2000) (h : toksV L = (ts, x, 0)) :
    Lexes 0 L ts ∧ (segs L (btw z) 0 ts).length ≤ 65536 ∧ ∃ ts', toksV (segs L (btw z) 0 ts) = (ts', 0, 0) ∧ same ts ts' := by
  unfold toksV at h
  rw [if_neg (by omega)] at h
  have hx := lexes_of L.length L 0 ts x (Nat.le_refl _) h
  obtain ⟨h1, h2, h3, h4⟩ := lexes_places hx
  have hlen : (segs L (btw z) 0 ts).length ≤ 65536 := by
    cases ts with
    | nil => exact absurd rfl h1
    | cons t r =>
      have := segs_len (L := L) (bt := btw z) (fun j => (btw_good z j).2) (M := L.length) r t 0 h4 (fun u hu => by have := h3 u hu; omega)
      simp at h2
      omega
  refine ⟨hx, hlen, ?_⟩
  obtain ⟨u, us, g, _, _, _, _, _, h6⟩ := segs_same (bt := btw z) (fun j => (btw_good z j).1) hx rfl (Nat.zero_le _)
  obtain ⟨ts', g1, g2⟩ := h6 0 0
  refine ⟨ts', ?_, g2⟩
  unfold toksV
  rw [if_neg (by omega)]
  exact lexes_to g1 _ (Nat.le_refl _)
theorem segs_drop {L : List Int} {bt : Nat → List Int} (ts : List Tok) (j k : Nat) (h : k + 1 < ts.length) :
    segs L bt j (ts.drop k) = bt j ++ ((L.drop ts[k].at_.toNat).take (ts[k + 1].at_.toNat - ts[k].at_.toNat) ++ segs L bt (j + 1) (ts.drop (k + 1))) := by
  rw [List.drop_eq_getElem_cons (show k < ts.length by omega), List.drop_eq_getElem_cons h]
  rfl
theorem segs_end {L : List Int} {bt : Nat → List Int} (ts : List Tok) (j k : Nat) (h : ¬ k + 1 < ts.length) : segs L bt j (ts.drop k) = [] := by
  have hl : (ts.drop k).length ≤ 1 := by simp; omega
  generalize ts.drop k = r at *
  match r, hl with
  | [], _ => rfl
  | [_], _ => rfl
/-- Two tokens that follow each other. -/
theorem places_at {L : List Int} {ts : List Tok} (h : Lexes 0 L ts) {k : Nat} (hk : k + 1 < ts.length) : ∃ x y : Nat, ts[k].at_ = (x : Int) ∧ ts[k + 1].at_ = (y : Int) ∧ x < y ∧ y ≤ L.length := by
  obtain ⟨_, _, h3, h4⟩ := lexes_places h
  have a1 := h3 ts[k] (List.getElem_mem _)
  have a2 := h3 ts[k + 1] (List.getElem_mem _)
  have a3 := List.pairwise_iff_getElem.1 h4 k (k + 1) (by omega) hk (by omega)
  exact ⟨ts[k].at_.toNat, ts[k + 1].at_.toNat, by omega, by omega, by omega, by omega⟩
theorem segs_at {L : List Int} {bt : Nat → List Int} {ts : List Tok} {j k : Nat} (h : k + 1 < ts.length) {x y : Nat} (hx : ts[k].at_ = (x : Int)) (hy : ts[k + 1].at_ = (y : Int)) :
    segs L bt j (ts.drop k) = bt j ++ ((L.drop x).take (y - x) ++ segs L bt (j + 1) (ts.drop (k + 1))) := by
  rw [segs_drop ts j k h, hx, hy, Int.toNat_natCast, Int.toNat_natCast]
theorem same_len {a b : List Tok} (h : same a b) : a.length = b.length := by
  have := congrArg List.length h
  simpa using this
theorem same_at {a b : List Tok} (h : same a b) {k : Nat} (ha : k < a.length) (hb : k < b.length) : a[k].kind = b[k].kind ∧ a[k].text = b[k].text ∧ a[k].n = b[k].n := by
  have := congrArg (fun l => l[k]?) h
  simp only [List.getElem?_map, List.getElem?_eq_getElem ha, List.getElem?_eq_getElem hb, Option.map_some, Option.some.injEq, Prod.mk.injEq] at this
  exact this
end Go.Proofs.YtipfbppkahfnmaaDoor.LM
