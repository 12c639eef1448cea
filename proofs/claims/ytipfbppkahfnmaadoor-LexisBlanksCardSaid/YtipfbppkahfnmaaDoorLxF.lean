import Derived.Test.YtipfbppkahfnmaaDoorLxE
namespace Go.Proofs.YtipfbppkahfnmaaDoor
open Go.RowKit RM LM
set_option linter.unusedVariables false

/-- What the document's number answers. -/
def refNumV (l : List UInt8) : Value := .tuple #[.int .i64 (numT l).1, .int .i64 (numT l).2]
theorem refNum_bad {l : List UInt8} (h : numB l = false) : refNumV l = .tuple #[.int .i64 0, .int .i64 4] := by
  unfold refNumV numT; rw [if_pos h]
theorem refNum_big {l : List UInt8} (h : numB l = true) (hb : 9223372036854775807 < numL l) : refNumV l = .tuple #[.int .i64 0, .int .i64 7] := by
  unfold refNumV numT; rw [if_neg (by simp [h]), if_pos hb]
theorem refNum_ok {l : List UInt8} (h : numB l = true) (hb : ¬ 9223372036854775807 < numL l) : refNumV l = .tuple #[.int .i64 (numL l), .int .i64 0] := by
  unfold refNumV numT; rw [if_neg (by simp [h]), if_neg hb]
theorem digit_ku (c : UInt8) : su c = 4 ↔ ku c = 3 := by
  rw [ku_su]
  repeat' split
  all_goals omega

theorem num_wrap (n c : Nat) (h1 : 48 ≤ c) (h2 : c ≤ 57) (h : 10 * n + (c - 48) ≤ 9223372036854775807) :
    wrap64 (wrap64 (10 * (n : Int) + (c : Int)) - 48) = ((10 * n + (c - 48) : Nat) : Int) := by
  unfold wrap64
  omega
theorem num_step (s : ByteArray) (j : Nat) (hj : j < s.size) (h : su s[j] = 4) :
    numL (s.toList.take (j + 1)) = 10 * numL (s.toList.take j) + (s[j].toNat - 48) ∧ 48 ≤ (s[j].toNat : Int) ∧ (s[j].toNat : Int) ≤ 57 := by
  have hd := su_digit h
  refine ⟨?_, by omega, by omega⟩
  have hl := data_len s
  rw [List.take_succ_eq_append_getElem (by omega), numL_snoc]
  have e : s.toList[j]'(by omega) = s[j] := by
    have := data_get s j hj
    rw [List.getElem?_eq_getElem (by omega)] at this
    exact Option.some.inj this
  rw [e]

set_option maxRecDepth 100000 in
set_option maxHeartbeats 1000000 in
theorem refNumber_any (s : ByteArray) (w : World) (hs : s.size ≤ 100000) (h0 : 0 < s.size) :
    Calls Tryd.prog 37 #[.string s] w fun e w' => e = .returned (refNumV s.toList) ∧ w = w' := by
  have HK := Lib.hid (fun (j : Nat) (hj : j < s.size) w => kind_byte s[j] w)
  by_cases hl : 1 < s.size ∧ (s[0].toNat : Int) = 48
  · obtain ⟨h1, h2⟩ := hl
    have HF := Lib.hid (refNum_bad (num_lead h1 h2))
    have h2' : ((s[0].toNat : Int) == 48) = true := by simp [h2]
    by_cases h3 : ku s[0] = 3
    · have h3' : (ku s[0] != 3) = false := by simp [h3]
      clear h3 h2
      go_enter Tryd.func37, Tryd.ntmps37
      go_wp2
      go_loop [4] (fun i => i = .int .i64 0) (fun i => 0)
      case atStart => exact rfl
      case round =>
        subst hrel
        go_wp2_with (go_at_call 21; refine (HK.out _ h0 _).mono ?_; rintro e w' ⟨rfl, rfl⟩)
        go_ret2
        exact ⟨by rw [HF.out]; rfl, rfl⟩
    · have h3' : (ku s[0] != 3) = true := by simp [h3]
      clear h3 h2
      go_enter Tryd.func37, Tryd.ntmps37
      go_wp2
      go_loop [4] (fun i => i = .int .i64 0) (fun i => 0)
      case atStart => exact rfl
      case round =>
        subst hrel
        go_wp2_with (go_at_call 21; refine (HK.out _ h0 _).mono ?_; rintro e w' ⟨rfl, rfl⟩)
        go_ret2
        exact ⟨by rw [HF.out]; rfl, rfl⟩
  · have HG := Lib.hid (fun h => num_good h0 hl h)
    have hA : ((s[0].toNat : Int) == 48) = true → ¬ 1 < s.size := fun h1 h2 => hl ⟨h2, by simpa using h1⟩
    have HA := Lib.hid hA
    clear hA
    have hlimit : (s.size : Int) > 19 ↔ 19 < s.size := by omega
    clear hl hlimit
    go_enter Tryd.func37, Tryd.ntmps37
    go_wp2
    go_loop [4] (fun i => ∃ k : Nat, k ≤ s.size ∧ i = .int .i64 k ∧ Hid (∀ j (hj : j < s.size), j < k → su s[j] = 4)) (fun i => s.size - (intOf i).toNat)
    case atStart => exact ⟨0, by omega, rfl, fun j hj hk => by omega⟩
    case round =>
      obtain ⟨k, hk, rfl, hgood⟩ := hrel
      by_cases hlt : k < s.size
      · by_cases hx : ku s[k] = 3
        · have HX := Lib.hid ((digit_ku _).2 hx)
          have hx' : (ku s[k] != 3) = false := by simp [hx]
          clear hx
          by_cases hA : ((s[0].toNat : Int) == 48) = true
          · have h1 := HA.out hA
            go_wp2_with (go_at_call 21; refine (HK.out _ hlt _).mono ?_; rintro e w' ⟨rfl, rfl⟩)
            go_round
            case rel =>
              refine ⟨k + 1, by omega, by go_num, fun j hj hjk => ?_⟩
              by_cases e : j < k
              · exact hgood.out j hj e
              · obtain rfl : j = k := by omega
                exact HX.out
            case measure => simp [intOf]; omega
          · have hA' : ((s[0].toNat : Int) == 48) = false := by simpa using hA
            clear hA
            go_wp2_with (go_at_call 21; refine (HK.out _ hlt _).mono ?_; rintro e w' ⟨rfl, rfl⟩)
            go_round
            case rel =>
              refine ⟨k + 1, by omega, by go_num, fun j hj hjk => ?_⟩
              by_cases e : j < k
              · exact hgood.out j hj e
              · obtain rfl : j = k := by omega
                exact HX.out
            case measure => simp [intOf]; omega
        · have HF := Lib.hid (refNum_bad (num_char hlt (fun h => hx ((digit_ku _).1 h))))
          have hx' : (ku s[k] != 3) = true := by simp [hx]
          clear hx
          go_wp2_with (go_at_call 21; refine (HK.out _ hlt _).mono ?_; rintro e w' ⟨rfl, rfl⟩)
          go_ret2
          exact ⟨by rw [HF.out]; rfl, rfl⟩
      · have hg := HG.out fun j hj => hgood.out j hj (by omega)
        obtain ⟨hg1, hg2⟩ := hg
        have hlen := data_len s
        by_cases hbig : 9223372036854775807 < numL s.toList
        · have HF := Lib.hid (refNum_big hg1 hbig)
          by_cases h19 : 19 < s.size
          · clear hbig hg1 hg2 hlen
            go_wp2_with fail
            go_ret2
            exact ⟨by rw [HF.out]; rfl, rfl⟩
          · have he : s.size = 19 := by
              by_cases h : s.size = 19
              · exact h
              · have := num_short hg2 (by rw [hlen]; omega)
                omega
            have hL := num_lim hg2 (by rw [hlen]; exact he)
            rw [decide_eq_true hbig] at hL
            unfold limL at hL
            have he' : ((s.size : Int) == 19) = true := by simp; omega
            have hle : (s.size : Int) ≤ 19 := by omega
            clear hbig hg1 hg2 hlen he h19
            go_wp2_with fail
            go_ret2
            exact ⟨by rw [HF.out]; rfl, rfl⟩
        · have HF := Lib.hid (refNum_ok hg1 hbig)
          have HT := Lib.hid (fun (j : Nat) (hj : j < s.size) => num_step s j hj (hgood.out j hj (by omega)))
          have HB := Lib.hid (fun j => Nat.le_trans (numL_take hg2 j) (Nat.not_lt.1 hbig))
          have HE := Lib.hid (show numL (s.toList.take s.size) = numL s.toList by rw [List.take_of_length_le (by omega)])
          have h19 : s.size ≤ 19 := by
            by_cases h : 19 < s.size
            · obtain ⟨r, e⟩ := data_head h0
              rw [e] at hg1 hbig hlen
              exact absurd (num_long hg1 (by rw [hlen]; exact h)) hbig
            · omega
          by_cases he : s.size = 19
          · have hL := num_lim hg2 (by rw [hlen]; exact he)
            rw [decide_eq_false hbig] at hL
            unfold limL at hL
            have he' : ((s.size : Int) == 19) = true := by simp; omega
            have hle : (s.size : Int) ≤ 19 := by omega
            clear hbig hg1 hg2 hlen he
            go_wp2_with fail
            go_loop [6, 7] (fun n i => ∃ j : Nat, j ≤ s.size ∧ i = .int .i64 j ∧ n = .int .i64 (numL (s.toList.take j))) (fun _ i => s.size - (intOf i).toNat)
            case atStart => exact ⟨0, by omega, rfl, rfl⟩
            case round =>
              obtain ⟨j, hj, rfl, rfl⟩ := hrel
              have hb := HB.out j
              by_cases hjl : j < s.size
              · obtain ⟨h1, h2⟩ := HT.out j hjl
                have hb' := HB.out (j + 1)
                rw [h1] at hb'
                have hc := byte_bd s[j]
                have HH := Lib.hid h1
                clear h1
                generalize numL (s.toList.take j) = n at *
                go_wp2
                go_round
                case rel =>
                  refine ⟨j + 1, by omega, by go_num, ?_⟩
                  rw [HH.out, num_wrap n s[j].toNat (by omega) (by omega) hb']
                case measure => simp [intOf]; omega
              · obtain rfl : j = s.size := by omega
                have hn := HE.out
                go_wp2_with fail
                go_ret2
                exact ⟨by rw [HF.out, ← hn]; rfl, rfl⟩
          · have he' : ((s.size : Int) == 19) = false := by simp; omega
            have hle : (s.size : Int) ≤ 19 := by omega
            clear hbig hg1 hg2 hlen he
            go_wp2_with fail
            go_loop [6, 7] (fun n i => ∃ j : Nat, j ≤ s.size ∧ i = .int .i64 j ∧ n = .int .i64 (numL (s.toList.take j))) (fun _ i => s.size - (intOf i).toNat)
            case atStart => exact ⟨0, by omega, rfl, rfl⟩
            case round =>
              obtain ⟨j, hj, rfl, rfl⟩ := hrel
              have hb := HB.out j
              by_cases hjl : j < s.size
              · obtain ⟨h1, h2⟩ := HT.out j hjl
                have hb' := HB.out (j + 1)
                rw [h1] at hb'
                have hc := byte_bd s[j]
                have HH := Lib.hid h1
                clear h1
                generalize numL (s.toList.take j) = n at *
                go_wp2
                go_round
                case rel =>
                  refine ⟨j + 1, by omega, by go_num, ?_⟩
                  rw [HH.out, num_wrap n s[j].toNat (by omega) (by omega) hb']
                case measure => simp [intOf]; omega
              · obtain rfl : j = s.size := by omega
                have hn := HE.out
                go_wp2_with fail
                go_ret2
                exact ⟨by rw [HF.out, ← hn]; rfl, rfl⟩

theorem refNum_yes (s : ByteArray) (w : World) (hs : s.size ≤ 100000) (h0 : 0 < s.size) {n : Int} (h : numT s.toList = (n, 0)) :
    Calls Tryd.prog 37 #[.string s] w fun e w' => e = .returned (.tuple #[.int .i64 n, .int .i64 0]) ∧ w = w' := by
  have := refNumber_any s w hs h0
  unfold refNumV at this
  rw [h] at this
  exact this
theorem refNum_no (s : ByteArray) (w : World) (hs : s.size ≤ 100000) (h0 : 0 < s.size) {c : Int} (h : (numT s.toList).2 = c) (h1 : (numT s.toList).1 = 0) :
    Calls Tryd.prog 37 #[.string s] w fun e w' => e = .returned (.tuple #[.int .i64 0, .int .i64 c]) ∧ w = w' := by
  have := refNumber_any s w hs h0
  unfold refNumV at this
  rw [h, h1] at this
  exact this
theorem in_bool (a : Option Addr) (s : ByteArray) (v : Bool) (w : World) (h : Strs w a 15 kwL) (hv : kw s.toList = v) :
    Calls Tryd.prog 26 #[.slice a 15 15, .string s] w fun e w' => e = .returned (.bool v) ∧ w = w' := by
  subst hv
  exact in_any a 15 kwL s w h (by decide)
theorem wordly_bool (s : ByteArray) (v : Bool) (w : World) (hs : s.size ≤ 100000) (h : nameL s.toList = v) : Calls Tryd.prog 25 #[.string s] w fun e w' => e = .returned (.bool v) ∧ w = w' := by
  subst h; exact Wordly_any s w (by omega)

/-- The document's run: a token at its place, and a code; at a fault no token counts. -/
def RunPost (s : ByteArray) (p : Int) (w : World) (e : Ending) (w' : World) : Prop :=
  (∃ (t : Tok) (c : Int), e = .returned (.tuple #[tokV t.kind t.text t.n t.at_, .int .i64 c]) ∧ c = (runTk s).2 ∧ (c = 0 → t = { (runTk s).1 with at_ := p })) ∧ Below w.heap.size w w'
theorem run_fin {s : ByteArray} {p : Int} {w w' : World} {k n a : Int} {t : ByteArray} {c : Int} {x : Tok × Int} (hx : runTk s = x) (hb : Below w.heap.size w w') (h2 : c = x.2) (h3 : c = 0 → k = x.1.kind ∧ t = x.1.text ∧ n = x.1.n ∧ a = p) :
    RunPost s p w (.returned (.tuple #[tokV k t n a, .int .i64 c])) w' := by
  subst hx
  refine ⟨⟨⟨k, t, n, a⟩, c, rfl, h2, fun h => ?_⟩, hb⟩
  obtain ⟨e1, e2, e3, e4⟩ := h3 h
  subst e1 e2 e3 e4
  rfl

set_option maxRecDepth 100000 in
set_option maxHeartbeats 1000000 in
theorem refRun_any (s : ByteArray) (p : Int) (w : World) (hs : s.size ≤ 100000) (h0 : 0 < s.size) (hp0 : 0 ≤ p) (hp1 : p ≤ 9223372036854775807) :
    Calls Tryd.prog 22 #[.string s, .int .i64 p] w (RunPost s p w) := by
  have hh : s.toList.headD 0 = s[0] := by obtain ⟨r, e⟩ := data_head h0; rw [e]; rfl
  have hl := data_len s
  have HS := Lib.hid (fun w => kind_byte s[0] w)
  by_cases hd : su s[0] = 4
  · have HD := Lib.hid (show su (s.toList.headD 0) = 4 by rw [hh]; exact hd)
    have hd' : (ku s[0] == 3) = true := by simp [(digit_ku _).1 hd]
    have HK := Lib.hid (kw_digit HD.out)
    clear hd hh
    rcases numT_cases s.toList with ⟨_, h2, _, _⟩ | ⟨h1, h2⟩
    · generalize (numT s.toList).1 = n at *
      have HN := Lib.hid h2
      have HF := Lib.hid (runTk_num HK.out HD.out h2)
      clear h2
      go_enter Tryd.func22, Tryd.ntmps22
      go_wp2_with fail
      refine (Own_any _).mono ?_
      rintro e w1 ⟨a, b, rfl, h1, h2, h3⟩
      simp at h3
      obtain ⟨⟨hc0, hc1, hc2, hc3⟩, ⟨hf0, hf1, hf2, hf3⟩, hz, hb⟩ := own_cells h3
      have H1 := Lib.hid h1
      clear h1 h2 h3
      go_wp2_with (first | (go_at_call 21; refine (HS.out _).mono ?_; rintro e w' ⟨rfl, rfl⟩) | (go_at_call 37; refine (refNum_yes s _ hs h0 HN.out).mono ?_; rintro e w' ⟨rfl, rfl⟩))
      exact bodyPost_ret (v := .tuple #[tokV 2 ⟨#[]⟩ n p, .int .i64 0]) (by simp [results, tokV, Tryd.results22, go_sem, hc0, hc1, hc2, hc3]) rfl (run_fin HF.out (below_set4 hb _ _ _ _) rfl fun _ => ⟨rfl, rfl, rfl, rfl⟩)
    · generalize hc : (numT s.toList).2 = c at *
      have HN := Lib.hid hc
      have HN1 := Lib.hid h1
      have HF := Lib.hid (runTk_nonum HK.out HD.out hc (by omega))
      have hcn : c ≠ 0 := by omega
      clear hc h1 h2
      go_enter Tryd.func22, Tryd.ntmps22
      go_wp2_with fail
      refine (Own_any _).mono ?_
      rintro e w1 ⟨a, b, rfl, h1, h2, h3⟩
      simp at h3
      obtain ⟨⟨hc0, hc1, hc2, hc3⟩, ⟨hf0, hf1, hf2, hf3⟩, hz, hb⟩ := own_cells h3
      have H1 := Lib.hid h1
      clear h1 h2 h3
      go_wp2_with (first | (go_at_call 21; refine (HS.out _).mono ?_; rintro e w' ⟨rfl, rfl⟩) | (go_at_call 37; refine (refNum_no s _ hs h0 HN.out HN1.out).mono ?_; rintro e w' ⟨rfl, rfl⟩))
      exact bodyPost_ret (v := .tuple #[tokV 2 ⟨#[]⟩ 0 p, .int .i64 c]) (by simp [results, tokV, Tryd.results22, go_sem, hc0, hc1, hc2, hc3]) rfl (run_fin HF.out (below_set4 hb _ _ _ _) rfl fun h => absurd h hcn)
  · have HD := Lib.hid (show su (s.toList.headD 0) ≠ 4 by rw [hh]; exact hd)
    have hd' : (ku s[0] == 3) = false := by
      have : ¬ ku s[0] = 3 := fun h => hd ((digit_ku _).2 h)
      simpa using this
    clear hd hh
    by_cases hk : kw s.toList = true
    · have HK := Lib.hid hk
      have HF := Lib.hid (runTk_kw hk)
      clear hk hl
      go_enter Tryd.func22, Tryd.ntmps22
      go_wp2_with fail
      refine (Own_any _).mono ?_
      rintro e w1 ⟨a, b, rfl, h1, h2, h3⟩
      simp at h3
      obtain ⟨⟨hc0, hc1, hc2, hc3⟩, ⟨hf0, hf1, hf2, hf3⟩, hz, hb⟩ := own_cells h3
      have H1 := Lib.hid h1
      clear h1 h2 h3
      go_wp2_with (first | (go_at_call 21; refine (HS.out _).mono ?_; rintro e w' ⟨rfl, rfl⟩) | (go_at_call 26; refine (in_bool _ _ true _ H1.out HK.out).mono ?_; rintro e w' ⟨rfl, rfl⟩))
      exact bodyPost_ret (v := .tuple #[tokV 3 s 0 p, .int .i64 0]) (by simp [results, tokV, Tryd.results22, go_sem, hc0, hc1, hc2, hc3]) rfl (run_fin HF.out (below_set4 hb _ _ _ _) rfl fun _ => ⟨rfl, rfl, rfl, rfl⟩)
    · have HK := Lib.hid (show kw s.toList = false by simpa using hk)
      clear hk
      by_cases hn : nameL s.toList = true
      · have HN := Lib.hid hn
        clear hn
        by_cases h32 : 32 < s.size
        · have HF := Lib.hid (runTk_long HK.out HD.out HN.out (by rw [hl]; exact h32))
          clear hl
          go_enter Tryd.func22, Tryd.ntmps22
          go_wp2_with fail
          refine (Own_any _).mono ?_
          rintro e w1 ⟨a, b, rfl, h1, h2, h3⟩
          simp at h3
          obtain ⟨⟨hc0, hc1, hc2, hc3⟩, ⟨hf0, hf1, hf2, hf3⟩, hz, hb⟩ := own_cells h3
          have H1 := Lib.hid h1
          clear h1 h2 h3
          go_wp2_with (first | (go_at_call 21; refine (HS.out _).mono ?_; rintro e w' ⟨rfl, rfl⟩) | (go_at_call 26; refine (in_bool _ _ false _ H1.out HK.out).mono ?_; rintro e w' ⟨rfl, rfl⟩) | (go_at_call 25; refine (wordly_bool _ true _ hs HN.out).mono ?_; rintro e w' ⟨rfl, rfl⟩))
          exact bodyPost_ret (v := .tuple #[tokV 0 ⟨#[]⟩ 0 0, .int .i64 7]) (by simp [results, tokV, Tryd.results22, go_sem, hc0, hc1, hc2, hc3]) rfl (run_fin HF.out (below_set4 hb _ _ _ _) rfl fun h => by omega)
        · have HF := Lib.hid (runTk_word HK.out HD.out HN.out (by rw [hl]; exact h32))
          clear hl
          go_enter Tryd.func22, Tryd.ntmps22
          go_wp2_with fail
          refine (Own_any _).mono ?_
          rintro e w1 ⟨a, b, rfl, h1, h2, h3⟩
          simp at h3
          obtain ⟨⟨hc0, hc1, hc2, hc3⟩, ⟨hf0, hf1, hf2, hf3⟩, hz, hb⟩ := own_cells h3
          have H1 := Lib.hid h1
          clear h1 h2 h3
          go_wp2_with (first | (go_at_call 21; refine (HS.out _).mono ?_; rintro e w' ⟨rfl, rfl⟩) | (go_at_call 26; refine (in_bool _ _ false _ H1.out HK.out).mono ?_; rintro e w' ⟨rfl, rfl⟩) | (go_at_call 25; refine (wordly_bool _ true _ hs HN.out).mono ?_; rintro e w' ⟨rfl, rfl⟩))
          exact bodyPost_ret (v := .tuple #[tokV 1 s 0 p, .int .i64 0]) (by simp [results, tokV, Tryd.results22, go_sem, hc0, hc1, hc2, hc3]) rfl (run_fin HF.out (below_set4 hb _ _ _ _) rfl fun _ => ⟨rfl, rfl, rfl, rfl⟩)
      · have HN := Lib.hid (show nameL s.toList = false by simpa using hn)
        have HF := Lib.hid (runTk_strange HK.out HD.out HN.out)
        clear hn hl
        go_enter Tryd.func22, Tryd.ntmps22
        go_wp2_with fail
        refine (Own_any _).mono ?_
        rintro e w1 ⟨a, b, rfl, h1, h2, h3⟩
        simp at h3
        obtain ⟨⟨hc0, hc1, hc2, hc3⟩, ⟨hf0, hf1, hf2, hf3⟩, hz, hb⟩ := own_cells h3
        have H1 := Lib.hid h1
        clear h1 h2 h3
        go_wp2_with (first | (go_at_call 21; refine (HS.out _).mono ?_; rintro e w' ⟨rfl, rfl⟩) | (go_at_call 26; refine (in_bool _ _ false _ H1.out HK.out).mono ?_; rintro e w' ⟨rfl, rfl⟩) | (go_at_call 25; refine (wordly_bool _ false _ hs HN.out).mono ?_; rintro e w' ⟨rfl, rfl⟩))
        exact bodyPost_ret (v := .tuple #[tokV 0 ⟨#[]⟩ 0 0, .int .i64 4]) (by simp [results, tokV, Tryd.results22, go_sem, hc0, hc1, hc2, hc3]) rfl (run_fin HF.out (below_set4 hb _ _ _ _) rfl fun h => by omega)
end Go.Proofs.YtipfbppkahfnmaaDoor
