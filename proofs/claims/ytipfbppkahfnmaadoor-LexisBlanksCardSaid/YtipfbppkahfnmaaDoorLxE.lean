import Derived.Test.YtipfbppkahfnmaaDoorLxD
import Derived.Test.YtipfbppkahfnmaaDoorLxT
namespace Go.Proofs.YtipfbppkahfnmaaDoor
open Go.RowKit RM LM
set_option linter.unusedVariables false

def Tok.val (t : Tok) : Value := tokV t.kind t.text t.n t.at_
/-- A token and a code. -/
def tcV (x : Tok × Int) : Value := .tuple #[Tok.val x.1, .int .u8 x.2]

theorem number_yes (s : ByteArray) (w : World) (hs : s.size ≤ 100000) (h0 : 0 < s.size) (hv : EV w) {n : Int} (h : numT s.toList = (n, 0)) :
    Calls Tryd.prog 41 #[.string s] w fun e w' => e = .returned (.tuple #[.agg #[.int .u8 2, .string ⟨#[]⟩, .int .i64 n, .int .i64 0], .int .u8 0]) ∧ Below w.heap.size w w' := by
  have := number_any s w hs h0 hv
  rw [numV_yes h] at this
  exact this
theorem number_no (s : ByteArray) (w : World) (hs : s.size ≤ 100000) (h0 : 0 < s.size) (hv : EV w) {c : Int} (h : (numT s.toList).2 = c) (hc : c ≠ 0) :
    Calls Tryd.prog 41 #[.string s] w fun e w' => e = .returned (.tuple #[.agg #[.int .u8 0, .string ⟨#[]⟩, .int .i64 0, .int .i64 0], .int .u8 c]) ∧ Below w.heap.size w w' := by
  have := number_any s w hs h0 hv
  rw [numV_no h hc] at this
  exact this
theorem kw_bool (s : ByteArray) (v : Bool) (w : World) (h : kw s.toList = v) : Calls Tryd.prog 24 #[.string s] w fun e w' => e = .returned (.bool v) ∧ w = w' := by
  subst h; exact isKeyword_any s w
theorem name_bool (s : ByteArray) (v : Bool) (w : World) (hs : s.size ≤ 100000) (h : nameL s.toList = v) : Calls Tryd.prog 23 #[.string s] w fun e w' => e = .returned (.bool v) ∧ w = w' := by
  subst h; exact hasName_any s w (by omega)

set_option maxRecDepth 100000 in
set_option maxHeartbeats 1000000 in
theorem runToken_any (s : ByteArray) (w : World) (hs : s.size ≤ 100000) (h0 : 0 < s.size) (hv : EV w) :
    Calls Tryd.prog 31 #[.string s] w fun e w' => e = .returned (tcV (runTk s)) ∧ Below w.heap.size w w' := by
  have hh : s.toList.headD 0 = s[0] := by obtain ⟨r, e⟩ := data_head h0; rw [e]; rfl
  have hl := data_len s
  by_cases hk : kw s.toList = true
  · have HF := Lib.hid (runTk_kw hk)
    have HK := Lib.hid hk
    clear hk hh
    go_enter Tryd.func31, Tryd.ntmps31
    go_wp2_with (go_at_call 24; refine (kw_bool _ true _ HK.out).mono ?_; rintro e w' ⟨rfl, rfl⟩)
    exact bodyPost_ret (v := tcV (⟨3, s, 0, 0⟩, 0)) (by simp [results, tcV, Tok.val, tokV, Tryd.results31, go_sem]) rfl ⟨by rw [HF.out], (Below.refl _ _).alloc (Nat.le_refl _) _⟩
  have hk' : kw s.toList = false := by simpa using hk
  have HK := Lib.hid hk'
  have HV := Lib.hid hv
  have HS := Lib.hid (fun w => sortOf_byte s[0] w)
  clear hk hk' hv
  by_cases hd : su s[0] = 4
  · have HD := Lib.hid (show su (s.toList.headD 0) = 4 by rw [hh]; exact hd)
    have hd' : (su s[0] == 4) = true := by simp [hd]
    clear hd hh
    rcases numT_cases s.toList with ⟨_, h2, _, _⟩ | ⟨_, h2⟩
    · generalize (numT s.toList).1 = n at *
      have HN := Lib.hid h2
      have HF := Lib.hid (runTk_num HK.out HD.out h2)
      clear h2
      go_enter Tryd.func31, Tryd.ntmps31
      go_wp2_with (first | (go_at_call 24; refine (kw_bool _ false _ HK.out).mono ?_; rintro e w' ⟨rfl, rfl⟩) | (go_at_call 28; refine (HS.out _).mono ?_; rintro e w' ⟨rfl, rfl⟩))
      refine (number_yes s _ hs h0 (HV.out.below ((Below.refl _ _).alloc (Nat.le_refl _) _)) HN.out).mono ?_
      rintro e w2 ⟨rfl, hb2⟩
      simp at hb2
      obtain ⟨⟨hc0, hc1, hc2, hc3⟩, ⟨hf0, hf1, hf2, hf3⟩, hz, hb⟩ := own_cells hb2
      clear hb2
      go_wp2_with fail
      exact bodyPost_ret (v := tcV (⟨2, ⟨#[]⟩, n, 0⟩, 0)) (by simp [results, tcV, Tok.val, tokV, Tryd.results31, go_sem, hc0, hc1, hc2, hc3]) rfl ⟨by rw [HF.out], below_set4 hb _ _ _ _⟩
    · generalize hc : (numT s.toList).2 = c at *
      have HF := Lib.hid (runTk_nonum HK.out HD.out hc (by omega))
      have HN := Lib.hid hc
      have hc0 : c ≠ 0 := by omega
      clear hc
      go_enter Tryd.func31, Tryd.ntmps31
      go_wp2_with (first | (go_at_call 24; refine (kw_bool _ false _ HK.out).mono ?_; rintro e w' ⟨rfl, rfl⟩) | (go_at_call 28; refine (HS.out _).mono ?_; rintro e w' ⟨rfl, rfl⟩))
      refine (number_no s _ hs h0 (HV.out.below ((Below.refl _ _).alloc (Nat.le_refl _) _)) HN.out hc0).mono ?_
      rintro e w2 ⟨rfl, hb2⟩
      simp at hb2
      obtain ⟨⟨hc0, hc1, hc2, hc3⟩, ⟨hf0, hf1, hf2, hf3⟩, hz, hb⟩ := own_cells hb2
      clear hb2
      go_wp2_with fail
      exact bodyPost_ret (v := tcV (zT, c)) (by simp [results, tcV, zT, Tok.val, tokV, Tryd.results31, go_sem, hc0, hc1, hc2, hc3]) rfl ⟨by rw [HF.out], below_set4 hb _ _ _ _⟩
  · have HD := Lib.hid (show su (s.toList.headD 0) ≠ 4 by rw [hh]; exact hd)
    have hd' : (su s[0] == 4) = false := by simp [hd]
    clear hd hh
    by_cases hn : nameL s.toList = true
    · have HN := Lib.hid hn
      clear hn
      by_cases h32 : 32 < s.size
      · have HF := Lib.hid (runTk_long HK.out HD.out HN.out (by rw [hl]; exact h32))
        clear hl
        go_enter Tryd.func31, Tryd.ntmps31
        go_wp2_with (first | (go_at_call 24; refine (kw_bool _ false _ HK.out).mono ?_; rintro e w' ⟨rfl, rfl⟩) | (go_at_call 28; refine (HS.out _).mono ?_; rintro e w' ⟨rfl, rfl⟩) | (go_at_call 23; refine (name_bool _ true _ hs HN.out).mono ?_; rintro e w' ⟨rfl, rfl⟩))
        exact bodyPost_ret (v := tcV (zT, 7)) (by simp [results, tcV, zT, Tok.val, tokV, Tryd.results31, go_sem]) rfl ⟨by rw [HF.out], (Below.refl _ _).alloc (Nat.le_refl _) _⟩
      · have HF := Lib.hid (runTk_word HK.out HD.out HN.out (by rw [hl]; exact h32))
        clear hl
        go_enter Tryd.func31, Tryd.ntmps31
        go_wp2_with (first | (go_at_call 24; refine (kw_bool _ false _ HK.out).mono ?_; rintro e w' ⟨rfl, rfl⟩) | (go_at_call 28; refine (HS.out _).mono ?_; rintro e w' ⟨rfl, rfl⟩) | (go_at_call 23; refine (name_bool _ true _ hs HN.out).mono ?_; rintro e w' ⟨rfl, rfl⟩))
        exact bodyPost_ret (v := tcV (⟨1, s, 0, 0⟩, 0)) (by simp [results, tcV, Tok.val, tokV, Tryd.results31, go_sem]) rfl ⟨by rw [HF.out], (Below.refl _ _).alloc (Nat.le_refl _) _⟩
    · have HN := Lib.hid (show nameL s.toList = false by simpa using hn)
      have HF := Lib.hid (runTk_strange HK.out HD.out HN.out)
      clear hn hl
      go_enter Tryd.func31, Tryd.ntmps31
      go_wp2_with (first | (go_at_call 24; refine (kw_bool _ false _ HK.out).mono ?_; rintro e w' ⟨rfl, rfl⟩) | (go_at_call 28; refine (HS.out _).mono ?_; rintro e w' ⟨rfl, rfl⟩) | (go_at_call 23; refine (name_bool _ false _ hs HN.out).mono ?_; rintro e w' ⟨rfl, rfl⟩))
      exact bodyPost_ret (v := tcV (zT, 4)) (by simp [results, tcV, zT, Tok.val, tokV, Tryd.results31, go_sem]) rfl ⟨by rw [HF.out], (Below.refl _ _).alloc (Nat.le_refl _) _⟩
end Go.Proofs.YtipfbppkahfnmaaDoor
