import Derived.Test.YtipfbppkahfnmaaDoorLxF
import Derived.Test.YtipfbppkahfnmaaDoorLxP
namespace Go.Proofs.YtipfbppkahfnmaaDoor
open Go.RowKit RM LM
set_option linter.unusedVariables false

theorem getD_take (l : List Int) {n i : Nat} (h : i < n) : (l.take n).getD i 0 = l.getD i 0 := by
  rw [List.getD_eq_getElem?_getD, List.getD_eq_getElem?_getD, List.getElem?_take, if_pos h]
theorem getD_drop (l : List Int) (n i : Nat) : (l.drop n).getD i 0 = l.getD (n + i) 0 := by
  rw [List.getD_eq_getElem?_getD, List.getD_eq_getElem?_getD, List.getElem?_drop]
theorem Sl.take {k : IntKind} {w : World} {a : Option Addr} {cap : Nat} {l : List Int} (h : Sl k w a cap l) (n : Nat) (hn : n ≤ l.length) : Sl k w a cap (l.take n) := by
  have hl := h.le
  refine ⟨by simp; omega, h.mx, ?_, h.nil⟩
  rcases h.rd with e | ⟨b, off, e, hlt, hc⟩
  · exact .inl (by rw [e]; simp)
  · refine .inr ⟨b, off, e, hlt, fun i hi => ?_⟩
    simp at hi
    rw [hc i (by omega), getD_take l (by omega)]
theorem Byt.take {l : List Int} (h : Byt l) (n : Nat) : Byt (l.take n) := by
  intro i hi
  simp at hi
  rw [getD_take l (by omega)]
  exact h i (by omega)
theorem Byt.drop {l : List Int} (h : Byt l) (n : Nat) : Byt (l.drop n) := by
  intro i hi
  simp at hi
  rw [getD_drop]
  exact h (n + i) (by omega)
theorem Byt.mem {l : List Int} (h : Byt l) : ∀ x ∈ l, 0 ≤ x ∧ x ≤ 255 := by
  intro x hx
  obtain ⟨i, hi, e⟩ := List.mem_iff_getElem.1 hx
  have := h i hi
  rw [List.getD_eq_getElem?_getD, List.getElem?_eq_getElem hi] at this
  simpa [e] using this
theorem plain_at (b off j : Nat) : (⟨b, off, none⟩ : Addr).add j = ⟨b, off + j, none⟩ := by
  by_cases j0 : j = 0
  · subst j0; simp [Addr.add]
  · simp [Addr.add, j0]

/-- The first n bytes as a text. -/
theorem conv_take {w : World} {a : Option Addr} {cap : Nat} {l : List Int} (h : Sl .u8 w a cap l) (n : Nat) (hn : n ≤ l.length) (h0 : l ≠ []) :
    (convert 22 9 (.slice a n cap)).run Tryd.prog w = .ok (.string (strOfNums (l.take n))) w := by
  rcases h.rd with e | ⟨b, off, rfl, hlt, hc⟩
  · exact absurd e h0
  · refine run_convert_bytes_arg w 22 5 Tryd.underlying22 Tryd.underlying5 b off n cap (l.take n) (by simp; omega) (fun i hi => ?_) 9 Tryd.underlying9
    rw [hc i (by omega), getD_take l hi]

theorem check_any (a : Option Addr) (cap : Nat) (l : List Int) (n : Nat) (w : World) (h : Sl .u8 w a cap l) (hb : Byt l) (hn : n ≤ l.length) :
    Calls Tryd.prog 39 #[.slice a n cap] w fun e w' => e = .returned (.int .i64 (wrL (l.take n))) ∧ w = w' := by
  have := Check_any a cap (l.take n) w (h.take n hn) (hb.take n)
  rw [show (l.take n).length = n by simp; omega] at this
  exact this

theorem idx_any (a : Option Addr) (cap : Nat) (l : List Int) (w : World) (h : Sl .u8 w a cap l) (hb : Byt l) (h0 : l ≠ []) :
    Calls Tryd.prog 38 #[.slice a l.length cap, .int .u8 10] w fun e w' => e = .returned (.int .i64 (if (10 : Int) ∈ l then ((tw l).length : Int) else -1)) ∧ w = w' := by
  rcases h.rd with e | ⟨b, off, rfl, hlt, hc⟩
  · exact absurd e h0
  · rw [← idx_tw l hb.mem]
    exact (Tryd.bytes_IndexByte b off l.length cap l 10 w rfl hc).mono fun e w' h => ⟨h.1, h.2.symm⟩

theorem remark_any (a : Option Addr) (cap : Nat) (l : List Int) (w : World) (h : Sl .u8 w a cap l) (hb : Byt l) (h0 : l ≠ []) :
    Calls Tryd.prog 29 #[.slice a l.length cap] w fun e w' => e = .returned (.tuple #[.int .i64 (remV l).1, .int .u8 (remV l).2]) ∧ w = w' := by
  have hcap := h.le
  have hmax := h.mx
  have htl := tw_le l
  have HI := Lib.hid (idx_any a cap l w h hb h0)
  have HC := Lib.hid (check_any a cap l (tw l).length w h hb htl)
  have hr : remV l = if 0 ≤ wrL (tw l) then (wrL (tw l), 3) else ((tw l).length, 0) := rfl
  have hbd := wrL_bd (tw l)
  have e := tw_take l
  by_cases h10 : (10 : Int) ∈ l
  · rw [if_pos h10] at HI
    rw [← e] at HC
    generalize wrL (tw l) = x at *
    generalize (tw l).length = n at *
    have HR := Lib.hid hr
    clear hr e h10 h hb
    obtain ⟨hb1, hb2⟩ := hbd
    by_cases hx : 0 ≤ x
    · go_enter Tryd.func29, Tryd.ntmps29
      go_wp2_with (first | (go_at_call 38; refine HI.out.mono ?_; rintro e w' ⟨rfl, rfl⟩) | (go_at_call 39; refine HC.out.mono ?_; rintro e w' ⟨rfl, rfl⟩))
      go_ret2
      exact ⟨by rw [HR.out, if_pos hx]; rfl, rfl⟩
    · go_enter Tryd.func29, Tryd.ntmps29
      go_wp2_with (first | (go_at_call 38; refine HI.out.mono ?_; rintro e w' ⟨rfl, rfl⟩) | (go_at_call 39; refine HC.out.mono ?_; rintro e w' ⟨rfl, rfl⟩))
      go_ret2
      exact ⟨by rw [HR.out, if_neg (by omega)]; rfl, rfl⟩
  · rw [if_neg h10] at HI
    have e2 := tw_none h10
    rw [e2] at hr hbd HC
    rw [List.take_of_length_le (Nat.le_refl _)] at HC
    generalize wrL l = x at *
    have HR := Lib.hid hr
    clear hr e h10 h hb e2 htl
    obtain ⟨hb1, hb2⟩ := hbd
    by_cases hx : 0 ≤ x
    · go_enter Tryd.func29, Tryd.ntmps29
      go_wp2_with (first | (go_at_call 38; refine HI.out.mono ?_; rintro e w' ⟨rfl, rfl⟩) | (go_at_call 39; refine HC.out.mono ?_; rintro e w' ⟨rfl, rfl⟩))
      go_ret2
      exact ⟨by rw [HR.out, if_pos hx]; rfl, rfl⟩
    · go_enter Tryd.func29, Tryd.ntmps29
      go_wp2_with (first | (go_at_call 38; refine HI.out.mono ?_; rintro e w' ⟨rfl, rfl⟩) | (go_at_call 39; refine HC.out.mono ?_; rintro e w' ⟨rfl, rfl⟩))
      go_ret2
      exact ⟨by rw [HR.out, if_neg (by omega)]; rfl, rfl⟩

theorem runV_stop {l : List Int} {k : Nat} (hk : k ≤ l.length) (h : ∀ j, j < k → inRun (l.getD j 0) = true) (hn : k < l.length → inRun (l.getD k 0) = false) : runV l = l.take k := by
  induction l generalizing k with
  | nil => simp [runV]
  | cons c r ih =>
    unfold runV at ih ⊢
    rw [List.takeWhile_cons]
    cases k with
    | zero =>
      have := hn (by simp)
      rw [show (c :: r).getD 0 0 = c from rfl] at this
      simp [this]
    | succ k =>
      have h0 := h 0 (by omega)
      rw [show (c :: r).getD 0 0 = c from rfl] at h0
      rw [if_pos h0, List.take_succ_cons, ih (k := k) (by simpa using hk) (fun j hj => by simpa using h (j + 1) (by omega)) (fun hk' => by simpa using hn (by simpa using hk'))]

theorem inRun_bool (c : Int) (v : Bool) (w : World) (h1 : 0 ≤ c) (h2 : c ≤ 255) (h : inRun c = v) :
    Calls Tryd.prog 40 #[.int .u8 c] w fun e w' => e = .returned (.bool v) ∧ w = w' := by
  subst h
  exact inRun_any c w h1 h2

theorem runOf_any (a : Option Addr) (cap : Nat) (l : List Int) (w : World) (h : Sl .u8 w a cap l) (hb : Byt l) (h0 : l ≠ []) :
    Calls Tryd.prog 30 #[.slice a l.length cap] w fun e w' => e = .returned (.string (strOfNums (runV l))) ∧ w = w' := by
  have hcap := h.le
  have hmax := h.mx
  have HS := Lib.hid h
  have HB := Lib.hid hb
  have HV := Lib.hid (fun n hn => conv_take h n hn h0)
  clear h hb
  go_enter Tryd.func30, Tryd.ntmps30
  go_wp2
  go_loop [3] (fun i => ∃ k : Nat, k ≤ l.length ∧ i = .int .i64 k ∧ Hid (∀ j, j < k → inRun (l.getD j 0) = true)) (fun i => l.length - (intOf i).toNat)
  case atStart => exact ⟨0, by omega, rfl, fun j hj => by omega⟩
  case round =>
    obtain ⟨k, hk, rfl, hgood⟩ := hrel
    by_cases hlt : k < l.length
    · rcases HS.out.rd with e | ⟨b, off, rfl, hlb, hc⟩
      · exact absurd e h0
      have hcell := hc k hlt
      obtain ⟨hb1, hb2⟩ := HB.out k hlt
      clear hc
      generalize hx : l.getD k 0 = x at *
      have HX := Lib.hid hx
      clear hx
      by_cases hr : inRun x = true
      · have HR := Lib.hid hr
        clear hr
        go_wp2_with (go_at_call 40; refine (inRun_bool _ true _ hb1 hb2 HR.out).mono ?_; rintro e w' ⟨rfl, rfl⟩)
        go_round
        case rel =>
          refine ⟨k + 1, by omega, by go_num, fun j hj => ?_⟩
          by_cases e : j < k
          · exact hgood.out j e
          · obtain rfl : j = k := by omega
            rw [HX.out]; exact HR.out
        case measure => simp [intOf]; omega
      · have HR := Lib.hid (show inRun x = false by simpa using hr)
        clear hr
        have HF := Lib.hid (runV_stop hk hgood.out (fun _ => by rw [HX.out]; exact HR.out))
        have hv := HV.out k hk
        have hkc : k ≤ cap := by omega
        go_wp2_with (go_at_call 40; refine (inRun_bool _ false _ hb1 hb2 HR.out).mono ?_; rintro e w' ⟨rfl, rfl⟩)
        go_ret
        exact ⟨by rw [HF.out]; rfl, rfl⟩
    · have HF := Lib.hid (runV_stop hk hgood.out (fun h => absurd h hlt))
      have hv := HV.out k hk
      have hkc : k ≤ cap := by omega
      go_wp2_with fail
      go_ret
      exact ⟨by rw [HF.out]; rfl, rfl⟩

theorem two_text (a b : Int) (ha : 0 ≤ a ∧ a ≤ 255) (hb : 0 ≤ b ∧ b ≤ 255) :
    ((strOfNums [a, b]).toList == [61, 61]) = (a == 61 && b == 61) ∧ ((strOfNums [a, b]).toList == [61, 62]) = (a == 61 && b == 62) ∧
    ((strOfNums [a, b]).toList == [58, 61]) = (a == 58 && b == 61) ∧ ((strOfNums [a, b]).toList == [45, 62]) = (a == 45 && b == 62) := by
  have e : (strOfNums [a, b]).toList = [UInt8.ofNat a.toNat, UInt8.ofNat b.toNat] := by rw [ByteArray.toList_eq]; rfl
  have k : ∀ (x : Int) (n : Nat), 0 ≤ x ∧ x ≤ 255 → n < 256 → (UInt8.ofNat x.toNat == UInt8.ofNat n) = (x == (n : Int)) := by
    intro x n hx hn
    rw [Bool.eq_iff_iff]
    simp only [beq_iff_eq]
    constructor
    · intro e
      have := congrArg UInt8.toNat e
      simp at this
      omega
    · intro e; subst e; rfl
  rw [e]
  refine ⟨?_, ?_, ?_, ?_⟩
  · show (UInt8.ofNat a.toNat == UInt8.ofNat 61 && (UInt8.ofNat b.toNat == UInt8.ofNat 61 && true)) = _
    rw [k a 61 ha (by decide), k b 61 hb (by decide)]; simp
  · show (UInt8.ofNat a.toNat == UInt8.ofNat 61 && (UInt8.ofNat b.toNat == UInt8.ofNat 62 && true)) = _
    rw [k a 61 ha (by decide), k b 62 hb (by decide)]; simp
  · show (UInt8.ofNat a.toNat == UInt8.ofNat 58 && (UInt8.ofNat b.toNat == UInt8.ofNat 61 && true)) = _
    rw [k a 58 ha (by decide), k b 61 hb (by decide)]; simp
  · show (UInt8.ofNat a.toNat == UInt8.ofNat 45 && (UInt8.ofNat b.toNat == UInt8.ofNat 62 && true)) = _
    rw [k a 45 ha (by decide), k b 62 hb (by decide)]; simp

theorem sign_fin {a : Option Addr} {n cap : Nat} {w : World} {t : ByteArray} (v : ByteArray) (h : Calls Tryd.prog 32 #[.slice a n cap] w (fun e w' => e = .returned (.string v) ∧ w = w')) (e : t = v) :
    Calls Tryd.prog 32 #[.slice a n cap] w fun e w' => e = .returned (.string t) ∧ w = w' := by
  rw [e]; exact h

set_option maxRecDepth 100000 in
theorem signOf_any (a : Option Addr) (cap : Nat) (l : List Int) (w : World) (h : Sl .u8 w a cap l) (hb : Byt l) (h0 : l ≠ []) :
    Calls Tryd.prog 32 #[.slice a l.length cap] w fun e w' => e = .returned (.string (strOfNums (signV l))) ∧ w = w' := by
  have hcap := h.le
  have hmax := h.mx
  match l, h0 with
  | [x], h0 =>
    have hv := conv_take h 1 (by simp) h0
    have hc1 : 1 ≤ cap := hcap
    go_enter Tryd.func32, Tryd.ntmps32
    go_wp2
    go_ret
    exact ⟨rfl, rfl⟩
  | x :: y :: r, h0 =>
    have hv1 := conv_take h 1 (by simp) h0
    have hv2 := conv_take h 2 (by simp) h0
    rw [show (x :: y :: r).take 1 = [x] from rfl] at hv1
    rw [show (x :: y :: r).take 2 = [x, y] from rfl] at hv2
    have hx := hb 0 (by simp)
    have hy := hb 1 (by simp)
    obtain ⟨e1, e2, e3, e4⟩ := two_text x y hx hy
    have hl : (x :: y :: r).length = r.length + 2 := rfl
    have hF := signV_two x y r
    have hT : two x y = ((strOfNums [x, y]).toList == [61, 61] || (strOfNums [x, y]).toList == [61, 62] || (strOfNums [x, y]).toList == [58, 61] || (strOfNums [x, y]).toList == [45, 62]) := by
      rw [e1, e2, e3, e4]; rfl
    rw [hl] at hcap ⊢
    generalize hs : strOfNums [x, y] = s at *
    have hY : two x y = true → strOfNums (signV (x :: y :: r)) = s := fun h => by rw [hF, if_pos h, hs]
    have hN : two x y = false → strOfNums (signV (x :: y :: r)) = strOfNums [x] := fun h => by rw [hF, if_neg (by simp [h])]
    rw [hT] at hY hN
    have HY := Lib.hid hY
    have HN := Lib.hid hN
    have hc1 : 1 ≤ cap := by omega
    have hc2 : 2 ≤ cap := by omega
    clear hF hT e1 e2 e3 e4 hx hy h hb hl hs hY hN
    by_cases t1 : (s.toList == [61, 61]) = true
    · refine sign_fin s ?_ (HY.out (by rw [t1]; rfl))
      clear HY HN
      go_enter Tryd.func32, Tryd.ntmps32
      go_wp2
      go_ret
      exact ⟨rfl, rfl⟩
    have t1' : (s.toList == [61, 61]) = false := by simpa using t1
    clear t1
    by_cases t2 : (s.toList == [61, 62]) = true
    · refine sign_fin s ?_ (HY.out (by rw [t1', t2]; rfl))
      clear HY HN
      go_enter Tryd.func32, Tryd.ntmps32
      go_wp2
      go_ret
      exact ⟨rfl, rfl⟩
    have t2' : (s.toList == [61, 62]) = false := by simpa using t2
    clear t2
    by_cases t3 : (s.toList == [58, 61]) = true
    · refine sign_fin s ?_ (HY.out (by rw [t1', t2', t3]; rfl))
      clear HY HN
      go_enter Tryd.func32, Tryd.ntmps32
      go_wp2
      go_ret
      exact ⟨rfl, rfl⟩
    have t3' : (s.toList == [58, 61]) = false := by simpa using t3
    clear t3
    by_cases t4 : (s.toList == [45, 62]) = true
    · refine sign_fin s ?_ (HY.out (by rw [t1', t2', t3', t4]; rfl))
      clear HY HN
      go_enter Tryd.func32, Tryd.ntmps32
      go_wp2
      go_ret
      exact ⟨rfl, rfl⟩
    have t4' : (s.toList == [45, 62]) = false := by simpa using t4
    clear t4
    refine sign_fin (strOfNums [x]) ?_ (HN.out (by rw [t1', t2', t3', t4']; rfl))
    go_enter Tryd.func32, Tryd.ntmps32
    go_wp2
    go_ret
    exact ⟨rfl, rfl⟩
end Go.Proofs.YtipfbppkahfnmaaDoor
