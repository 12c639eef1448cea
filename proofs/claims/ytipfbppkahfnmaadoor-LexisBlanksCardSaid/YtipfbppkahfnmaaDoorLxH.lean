import Derived.Test.YtipfbppkahfnmaaDoorLxG
namespace Go.Proofs.YtipfbppkahfnmaaDoor
open Go.RowKit RM LM
set_option linter.unusedVariables false

/-- A token, a number and a code. -/
def tncV (x : Tok × Int × Int) : Value := .tuple #[Tok.val x.1, .int .i64 x.2.1, .int .u8 x.2.2]

theorem sortOf_v (c v : Int) (w : World) (h : sortV c = v) (h1 : 0 ≤ c) (h2 : c ≤ 255) :
    Calls Tryd.prog 28 #[.int .u8 c] w fun e w' => e = .returned (.int .u8 v) ∧ w = w' := by
  subst h
  exact sortOf_any c w h1 h2

theorem runToken_yes (s : ByteArray) (t : Tok) (w : World) (hs : s.size ≤ 100000) (h0 : 0 < s.size) (hv : EV w) (h : runTk s = (t, 0)) :
    Calls Tryd.prog 31 #[.string s] w fun e w' => e = .returned (.tuple #[.agg #[.int .u8 t.kind, .string t.text, .int .i64 t.n, .int .i64 t.at_], .int .u8 0]) ∧ Below w.heap.size w w' := by
  have := runToken_any s w hs h0 hv
  rw [h] at this
  exact this
theorem runToken_no (s : ByteArray) (c : Int) (w : World) (hs : s.size ≤ 100000) (h0 : 0 < s.size) (hv : EV w) (h : runTk s = (zT, c)) :
    Calls Tryd.prog 31 #[.string s] w fun e w' => e = .returned (.tuple #[.agg #[.int .u8 0, .string ⟨#[]⟩, .int .i64 0, .int .i64 0], .int .u8 c]) ∧ Below w.heap.size w w' := by
  have := runToken_any s w hs h0 hv
  rw [h] at this
  exact this

set_option maxRecDepth 100000 in
set_option maxHeartbeats 1000000 in
theorem piece_any (a : Option Addr) (cap : Nat) (l : List Int) (w : World) (h : Sl .u8 w a cap l) (hb : Byt l) (h0 : l ≠ []) (hl : l.length ≤ 65536) (hv : EV w) :
    Calls Tryd.prog 18 #[.slice a l.length cap] w fun e w' => e = .returned (tncV (pieceV l)) ∧ Below w.heap.size w w' := by
  have hcap := h.le
  have hmax := h.mx
  have hpos : 0 < l.length := List.length_pos_iff.2 h0
  rcases h.rd with e | ⟨b, off, rfl, hlb, hc⟩
  · exact absurd e h0
  have hc0 := hc 0 hpos
  obtain ⟨hb1, hb2⟩ := hb 0 hpos
  have hh : l.headD 0 = l.getD 0 0 := by cases l with
    | nil => rfl
    | cons c r => rfl
  rw [Nat.add_zero] at hc0
  clear hc
  have hsb := sort_bd (l.getD 0 0)
  generalize hx : l.getD 0 0 = x at *
  have HH := Lib.hid hh
  have HS := Lib.hid h
  have HB := Lib.hid hb
  have HV := Lib.hid hv
  clear hh hx h hb hv
  have hs7 : sortV x = 0 ∨ sortV x = 1 ∨ sortV x = 2 ∨ sortV x = 3 ∨ 4 ≤ sortV x := by omega
  rcases hs7 with hs | hs | hs | hs | hs
  · have HX := Lib.hid hs
    have hs' : sortV (l.headD 0) = 0 := by rw [HH.out]; exact hs
    clear hs hsb
    by_cases hd : ∃ r, Dec l 0 r
    · obtain ⟨r, hd⟩ := hd
      have hn := (encB_len r).1
      have HF := Lib.hid (piece_strange hs' (by rw [hd.n]; omega))
      have HD := Lib.hid hd
      have HR := Lib.hid (fun w h => next_ok (some ⟨b, off, none⟩) cap l 0 r _ w h HB.out hd rfl)
      clear hd hn hs'
      generalize (encB r).length = n at *
      go_enter Tryd.func18, Tryd.ntmps18
      go_wp2_with (first | (go_at_call 28; refine (sortOf_v _ 0 _ HX.out hb1 hb2).mono ?_; rintro e w' ⟨rfl, rfl⟩) | (go_at_call 33; refine (HR.out _ (HS.out.below ((Below.refl _ _).alloc (Nat.le_refl _) _))).mono ?_; rintro e w' ⟨rfl, rfl⟩))
      exact bodyPost_ret (v := tncV (zT, 0, 4)) (by simp [results, tncV, zT, Tok.val, tokV, Tryd.results18, go_sem]) rfl ⟨by rw [HF.out], (Below.refl _ _).alloc (Nat.le_refl _) _⟩
    · have hd' : ∀ r, ¬ Dec l 0 r := fun r hr => hd ⟨r, hr⟩
      have HF := Lib.hid (piece_utf hs' (dec_none hd').2)
      have HR := Lib.hid (fun w h => next_no (some ⟨b, off, none⟩) cap l 0 w h HB.out hpos hd')
      clear hd hd' hs'
      go_enter Tryd.func18, Tryd.ntmps18
      go_wp2_with (first | (go_at_call 28; refine (sortOf_v _ 0 _ HX.out hb1 hb2).mono ?_; rintro e w' ⟨rfl, rfl⟩) | (go_at_call 33; refine (HR.out _ (HS.out.below ((Below.refl _ _).alloc (Nat.le_refl _) _))).mono ?_; rintro e w' ⟨rfl, rfl⟩))
      exact bodyPost_ret (v := tncV (zT, 0, 3)) (by simp [results, tncV, zT, Tok.val, tokV, Tryd.results18, go_sem]) rfl ⟨by rw [HF.out], (Below.refl _ _).alloc (Nat.le_refl _) _⟩
  · have HX := Lib.hid hs
    have HF := Lib.hid (piece_blank (l := l) (by rw [HH.out]; exact hs))
    clear hs hsb
    go_enter Tryd.func18, Tryd.ntmps18
    go_wp2_with (go_at_call 28; refine (sortOf_v _ 1 _ HX.out hb1 hb2).mono ?_; rintro e w' ⟨rfl, rfl⟩)
    exact bodyPost_ret (v := tncV (zT, 1, 0)) (by simp [results, tncV, zT, Tok.val, tokV, Tryd.results18, go_sem]) rfl ⟨by rw [HF.out], (Below.refl _ _).alloc (Nat.le_refl _) _⟩
  · have HX := Lib.hid hs
    have HF := Lib.hid (piece_hash (l := l) (by rw [HH.out]; exact hs))
    clear hs hsb
    have HR := Lib.hid (fun w h => remark_any (some ⟨b, off, none⟩) cap l w h HB.out h0)
    generalize hr : remV l = r at *
    obtain ⟨n, c⟩ := r
    go_enter Tryd.func18, Tryd.ntmps18
    go_wp2_with (first | (go_at_call 28; refine (sortOf_v _ 2 _ HX.out hb1 hb2).mono ?_; rintro e w' ⟨rfl, rfl⟩) | (go_at_call 29; refine (HR.out _ (HS.out.below ((Below.refl _ _).alloc (Nat.le_refl _) _))).mono ?_; rintro e w' ⟨rfl, rfl⟩))
    exact bodyPost_ret (v := tncV (zT, n, c)) (by simp [results, tncV, zT, Tok.val, tokV, Tryd.results18, go_sem]) rfl ⟨by rw [HF.out], (Below.refl _ _).alloc (Nat.le_refl _) _⟩
  · have HX := Lib.hid hs
    have HF := Lib.hid (piece_mark (l := l) (by rw [HH.out]; exact hs))
    clear hs hsb
    have hsl := signV_len h0
    have HR := Lib.hid (fun w h => signOf_any (some ⟨b, off, none⟩) cap l w h HB.out h0)
    have hz : (strOfNums (signV l)).size = (signV l).length := strOfNums_size _
    generalize strOfNums (signV l) = s at *
    generalize (signV l).length = n at *
    have HZ := Lib.hid hz
    obtain ⟨hn1, hn2, hn3, _⟩ := hsl
    have hsz : s.size ≤ 2 := by omega
    clear hz
    go_enter Tryd.func18, Tryd.ntmps18
    go_wp2_with (first | (go_at_call 28; refine (sortOf_v _ 3 _ HX.out hb1 hb2).mono ?_; rintro e w' ⟨rfl, rfl⟩) | (go_at_call 32; refine (HR.out _ (HS.out.below ((Below.refl _ _).alloc (Nat.le_refl _) _))).mono ?_; rintro e w' ⟨rfl, rfl⟩))
    exact bodyPost_ret (v := tncV (⟨3, s, 0, 0⟩, s.size, 0)) (by simp [results, tncV, Tok.val, tokV, Tryd.results18, go_sem]) rfl ⟨by rw [HF.out, HZ.out], (Below.refl _ _).alloc (Nat.le_refl _) _⟩
  · have hs' : 4 ≤ sortV (l.headD 0) := by rw [HH.out]; exact hs
    have hr1 : 1 ≤ (runV l).length := by
      obtain ⟨c, r, rfl⟩ := List.exists_cons_of_ne_nil h0
      unfold runV
      rw [List.takeWhile_cons, if_pos (by unfold inRun; exact decide_eq_true hs')]
      simp
    have hr2 := runV_le l
    have hz : (strOfNums (runV l)).size = (runV l).length := strOfNums_size _
    have HO := Lib.hid (fun w h => runOf_any (some ⟨b, off, none⟩) cap l w h HB.out h0)
    have hv4 : sortV x = 4 ∨ sortV x = 5 ∨ sortV x = 6 ∨ sortV x = 7 := by omega
    rcases runTk_cases (strOfNums (runV l)) with ⟨h1, _⟩ | ⟨h1, h2⟩
    · have h2 : runTk (strOfNums (runV l)) = ((runTk (strOfNums (runV l))).1, 0) := by rw [← h1]
      have HF := Lib.hid (piece_run hs' h2)
      clear h1 hs'
      generalize (runTk (strOfNums (runV l))).1 = t at *
      generalize strOfNums (runV l) = s at *
      generalize (runV l).length = n at *
      have HZ := Lib.hid hz
      have hsz : s.size ≤ 65536 := by omega
      have hsp : 0 < s.size := by omega
      have HT := Lib.hid (fun w hv => runToken_yes s t w (by omega) hsp hv h2)
      obtain ⟨tk, tt, tn, ta⟩ := t
      clear hz h2 hs
      rcases hv4 with hs | hs | hs | hs
      all_goals
        have HX := Lib.hid hs
        clear hs
        go_enter Tryd.func18, Tryd.ntmps18
        go_wp2_with (first | (go_at_call 28; refine (sortOf_v _ _ _ HX.out hb1 hb2).mono ?_; rintro e w' ⟨rfl, rfl⟩) | (go_at_call 30; refine (HO.out _ (HS.out.below ((Below.refl _ _).alloc (Nat.le_refl _) _))).mono ?_; rintro e w' ⟨rfl, rfl⟩))
        refine (HT.out _ (HV.out.below ((Below.refl _ _).alloc (Nat.le_refl _) _))).mono ?_
        rintro e w2 ⟨rfl, hb2⟩
        simp at hb2
        obtain ⟨⟨hc0, hc1, hc2, hc3⟩, ⟨hf0, hf1, hf2, hf3⟩, hz, hb⟩ := own_cells hb2
        clear hb2
        go_wp2_with fail
        exact bodyPost_ret (v := tncV (⟨tk, tt, tn, ta⟩, s.size, 0)) (by simp [results, tncV, Tok.val, tokV, Tryd.results18, go_sem, hc0, hc1, hc2, hc3, hz]) rfl ⟨by rw [HF.out, HZ.out], (below_set4 hb _ _ _ _).alloc (by simp; omega) _⟩
    · generalize hc : (runTk (strOfNums (runV l))).2 = c at *
      have h3 : runTk (strOfNums (runV l)) = (zT, c) := by rw [← h1, ← hc]
      have HF := Lib.hid (piece_norun hs' hc (by omega))
      clear h1 hs' hc
      generalize strOfNums (runV l) = s at *
      generalize (runV l).length = n at *
      have HZ := Lib.hid hz
      have hsz : s.size ≤ 65536 := by omega
      have hsp : 0 < s.size := by omega
      have HT := Lib.hid (fun w hv => runToken_no s c w (by omega) hsp hv h3)
      have hc' : (c != 0) = true := by simp; omega
      clear hz h3 hs h2
      rcases hv4 with hs | hs | hs | hs
      all_goals
        have HX := Lib.hid hs
        clear hs
        go_enter Tryd.func18, Tryd.ntmps18
        go_wp2_with (first | (go_at_call 28; refine (sortOf_v _ _ _ HX.out hb1 hb2).mono ?_; rintro e w' ⟨rfl, rfl⟩) | (go_at_call 30; refine (HO.out _ (HS.out.below ((Below.refl _ _).alloc (Nat.le_refl _) _))).mono ?_; rintro e w' ⟨rfl, rfl⟩))
        refine (HT.out _ (HV.out.below ((Below.refl _ _).alloc (Nat.le_refl _) _))).mono ?_
        rintro e w2 ⟨rfl, hb2⟩
        simp at hb2
        obtain ⟨⟨hc0, hc1, hc2, hc3⟩, ⟨hf0, hf1, hf2, hf3⟩, hz, hb⟩ := own_cells hb2
        clear hb2
        go_wp2_with fail
        exact bodyPost_ret (v := tncV (zT, 0, c)) (by simp [results, tncV, zT, Tok.val, tokV, Tryd.results18, go_sem, hc0, hc1, hc2, hc3, hz]) rfl ⟨by rw [HF.out], (below_set4 hb _ _ _ _).alloc (by simp; omega) _⟩
end Go.Proofs.YtipfbppkahfnmaaDoor
