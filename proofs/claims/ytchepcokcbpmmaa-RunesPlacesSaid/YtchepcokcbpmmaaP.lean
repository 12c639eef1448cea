import Derived.Test.YtchepcokcbpmmaaI
import Derived.Shelf.Bytes.SlCountOne
namespace Go.Proofs.Ytchepcokcbpmmaa
open Go.RowKit RM
set_option linter.unusedVariables false

theorem add_at (b off j : Nat) : (⟨b, off, none⟩ : Addr).add j = ⟨b, off + j, none⟩ := by
  by_cases j0 : j = 0
  · subst j0; simp [Addr.add]
  · simp [Addr.add, j0]

theorem count_bytes {l : List Int} (h : Byt l) : Lib.countByte (Lib.bytesOf l) (10 : Int).toNat.toUInt8 = l.count 10 := by
  have key : ∀ m : List Int, (∀ x ∈ m, 0 ≤ x ∧ x ≤ 255) → (Lib.bytesOf m).count (10 : UInt8) = m.count 10 := by
    intro m
    induction m with
    | nil => intro _; rfl
    | cons x xs ih =>
      intro hm
      have hx := hm x (by simp)
      have := ih (fun y hy => hm y (by simp [hy]))
      show (UInt8.ofNat x.toNat :: Lib.bytesOf xs).count 10 = _
      rw [List.count_cons, List.count_cons, this]
      congr 1
      have e : (UInt8.ofNat x.toNat == 10) = (x == 10) := by
        rw [Bool.eq_iff_iff]
        simp only [beq_iff_eq]
        constructor
        · intro e
          have := congrArg UInt8.toNat e
          simp at this
          omega
        · intro e; subst e; rfl
      rw [e]
  refine key l fun x hx => ?_
  obtain ⟨i, hi, e⟩ := List.mem_iff_getElem.1 hx
  have := h i hi
  rw [List.getD_eq_getElem?_getD, List.getElem?_eq_getElem hi] at this
  simpa [e] using this

theorem count_any (a : Option Addr) (cap : Nat) (l : List Int) (g : Nat) (w : World) (h : Sl .u8 w a cap l) (hb : Byt l) (hc : w.cell? ⟨g, 0, none⟩ = some (.int .u8 10)) :
    Calls Try.prog 25 #[.slice a l.length cap, .slice (some ⟨g, 0, none⟩) 1 1] w fun e w' => e = .returned (.int .i64 (l.count 10)) ∧ w = w' := by
  have hcount := count_bytes hb
  have hcap := h.le
  cases a with
  | none =>
    obtain rfl := h.nil rfl
    have hl : l = [] := List.length_eq_zero_iff.1 (by omega)
    subst hl
    clear hcount
    go_enter Try.func25, Try.ntmps25
    go_wp2_with fail
    rw [run_callFunc_extern Try.func28 (by kernel_rfl) (by kernel_rfl) (by kernel_rfl) (e := Extern.BytealgCount.count) (by kernel_rfl), Lib.run_countNil w 0 0 10]
    simp only [Result.andThen]
    rw [Oper.upon_value]
    go_wp2
    go_ret
    exact ⟨rfl, rfl⟩
  | some ad =>
    have hc' : ∀ i, i < l.length → w.cell? (ad.add i) = some (.int .u8 (l.getD i 0)) := by
      intro i hi
      rcases h.rd with e | ⟨b, off, e, hlt, hcc⟩
      · rw [e] at hi; simp at hi
      · cases e
        rw [add_at]; exact hcc i hi
    have hrun := Lib.run_countAt (P := Try.prog) w ad l.length cap l rfl hc' 10
    rw [hcount] at hrun
    have HR := Lib.hid hrun
    clear hrun hc' hcount
    go_enter Try.func25, Try.ntmps25
    go_wp2_with fail
    rw [run_callFunc_extern Try.func28 (by kernel_rfl) (by kernel_rfl) (by kernel_rfl) (e := Extern.BytealgCount.count) (by kernel_rfl), HR.out]
    simp only [Result.andThen]
    rw [Oper.upon_value]
    go_wp2
    go_ret
    exact ⟨rfl, rfl⟩

/-! ### the last line feed -/
theorem begins_ex (l : List Int) : ∃ g, Begins l g := by
  by_cases h : (10 : Int) ∈ l
  · obtain ⟨a, b, e, f⟩ := last_split l h
    exact ⟨a.length + 1, .inr ⟨a, b, e, f, rfl⟩⟩
  · exact ⟨0, .inl ⟨rfl, h⟩⟩

theorem begins_facts {l : List Int} {g : Nat} (h : Begins l g) : g ≤ l.length ∧ (∀ i, g ≤ i → i < l.length → l.getD i 0 ≠ 10) ∧ (g ≠ 0 → l.getD (g - 1) 0 = 10) := by
  rcases h with ⟨rfl, h⟩ | ⟨a, b, rfl, h, rfl⟩
  · refine ⟨by omega, fun i _ hi e => h ?_, fun h => absurd rfl h⟩
    rw [← e, List.getD_eq_getElem?_getD, List.getElem?_eq_getElem hi]; simp
  · refine ⟨by simp, fun i hi hl e => h ?_, fun _ => ?_⟩
    · rw [List.getD_eq_getElem?_getD, List.getElem?_append_right (by omega)] at e
      have hz : i - a.length = (i - a.length - 1) + 1 := by omega
      rw [hz, List.getElem?_cons_succ] at e
      have hlt : i - a.length - 1 < b.length := by simp at hl; omega
      rw [List.getElem?_eq_getElem hlt] at e
      rw [← e]; simp
    · rw [List.getD_eq_getElem?_getD, List.getElem?_append_right (by omega)]; simp

theorem last_any (a : Option Addr) (cap : Nat) (l : List Int) (g : Nat) (w : World) (h : Sl .u8 w a cap l) (hb : Byt l) (hg : Begins l g) :
    Calls Try.prog 30 #[.slice a l.length cap, .int .u8 10] w fun e w' => e = .returned (.int .i64 ((g : Int) - 1)) ∧ w = w' := by
  have hcap := h.le
  have hmax := h.mx
  obtain ⟨hg1, hg2, hg3⟩ := begins_facts hg
  have HS := Lib.hid h
  have HB := Lib.hid hb
  have HG2 := Lib.hid hg2
  have HG3 := Lib.hid hg3
  clear h hb hg hg2 hg3
  go_enter Try.func30, Try.ntmps30
  go_wp2_with fail
  go_loop [5] (fun i => ∃ k : Int, (g : Int) - 1 ≤ k ∧ k < l.length ∧ i = .int .i64 k) (fun i => (intOf i + 1).toNat)
  case atStart => exact ⟨(l.length : Int) - 1, by omega, by omega, rfl⟩
  case round =>
    obtain ⟨k, hk1, hk2, rfl⟩ := hrel
    by_cases hk : 0 ≤ k
    · obtain ⟨j, rfl⟩ := Int.eq_ofNat_of_zero_le hk
      rcases HS.out.rd with e | ⟨b, off, rfl, hlb, hc⟩
      · rw [e] at hk2; simp at hk2; omega
      have hjl : j < l.length := by omega
      have hcell := hc j hjl
      have hrng := HB.out j hjl
      by_cases hj : g ≤ j
      · have hne := HG2.out j hj hjl
        have hne' : (l.getD j 0 == 10) = false := by simpa using hne
        generalize l.getD j 0 = x at *
        obtain ⟨hx1, hx2⟩ := hrng
        clear hc hne
        go_wp2
        go_round
        case rel => exact ⟨(j : Int) - 1, by omega, by omega, by go_num⟩
        case measure => simp [intOf]
      · have hjg : j = g - 1 := by omega
        have heq := HG3.out (by omega)
        rw [← hjg] at heq
        have heq' : (l.getD j 0 == 10) = true := by simpa using heq
        generalize l.getD j 0 = x at *
        clear hc heq hrng
        have hfin : (j : Int) = (g : Int) - 1 := by omega
        have HF := Lib.hid hfin
        clear hfin hjg
        go_wp2
        go_ret
        exact ⟨ret_int HF.out, rfl⟩
    · have hfin : (-1 : Int) = (g : Int) - 1 := by omega
      have HF := Lib.hid hfin
      clear hfin
      go_wp2
      go_ret
      exact ⟨ret_int HF.out, rfl⟩

theorem Last_any (a : Option Addr) (cap : Nat) (l : List Int) (g : Nat) (w : World) (h : Sl .u8 w a cap l) (hb : Byt l) (hg : Begins l g) :
    Calls Try.prog 26 #[.slice a l.length cap, .int .u8 10] w fun e w' => e = .returned (.int .i64 ((g : Int) - 1)) ∧ w = w' := by
  have H := Lib.hid (last_any a cap l g w h hb hg)
  clear h hb hg
  go_enter Try.func26, Try.ntmps26
  go_wp2_with (go_at_call 30; refine H.out.mono ?_; rintro e w' ⟨rfl, rfl⟩)
  go_ret
  exact ⟨rfl, rfl⟩

/-! ### the document's place -/
theorem scan_step {ps : List Int} {i : Nat} (h : i < ps.length) (a b : Int) (ha : scan 1 1 (ps.take i) = (a, b)) :
    scan 1 1 (ps.take (i + 1)) = if ps.getD i 0 = 10 then (a + 1, 1) else (a, b + 1) := by
  have e : ps.take (i + 1) = ps.take i ++ [ps.getD i 0] := by
    rw [List.take_succ_eq_append_getElem h, List.getD_eq_getElem?_getD, List.getElem?_eq_getElem h]; rfl
  rw [e, scan_append, ha]
  simp only [scan]

/-- The document's line and column. -/
noncomputable def placeV (l : List Int) : Value := .tuple #[.int .i64 (scan 1 1 (run l).1).1, .int .i64 (scan 1 1 (run l).1).2]

theorem RefPlace_any (a : Option Addr) (cap : Nat) (l : List Int) (w : World) (h : Sl .u8 w a cap l) (hb : Byt l) (hL : l.length ≤ 5000) :
    Calls Try.prog 20 #[.slice a l.length cap] w fun e w' => e = .returned (placeV l) ∧ Below w.heap.size w w' := by
  have hle := (run_le l).2
  have HP := Lib.hid (Points_any a cap l w h hb hL)
  have hv : placeV l = .tuple #[.int .i64 (scan 1 1 (run l).1).1, .int .i64 (scan 1 1 (run l).1).2] := rfl
  generalize (run l).1 = ps at *
  have HV := Lib.hid hv
  clear hv h hb
  go_enter Try.func20, Try.ntmps20
  go_wp2_with fail
  refine HP.out.mono ?_
  rintro e w1 ⟨a1, c1, rfl, hs1, hb1⟩
  have HS := Lib.hid hs1
  have hc1 := hs1.le
  have hm1 := hs1.mx
  clear hs1
  go_wp2_with fail
  go_loop [5, 6, 7] (fun av bv iv => ∃ (i : Nat) (x y : Int), i ≤ ps.length ∧ iv = .int .i64 i ∧ av = .int .i64 x ∧ bv = .int .i64 y ∧ Hid (scan 1 1 (ps.take i) = (x, y)) ∧ 1 ≤ x ∧ x ≤ i + 1 ∧ 1 ≤ y ∧ y ≤ i + 1) (fun _ _ iv => ps.length - (intOf iv).toNat)
  case atStart => exact ⟨0, 1, 1, by omega, rfl, rfl, rfl, rfl, by omega, by omega, by omega, by omega⟩
  case round =>
    obtain ⟨i, x, y, hi, rfl, rfl, rfl, hsc, hx1, hx2, hy1, hy2⟩ := hrel
    by_cases hlt : i < ps.length
    · rcases HS.out.rd with e | ⟨b, off, rfl, hlb, hc⟩
      · rw [e] at hlt; simp at hlt
      have hcell := hc i hlt
      have hst := scan_step hlt x y hsc.out
      clear hc
      generalize ps.getD i 0 = r at *
      by_cases h10 : r = 10
      · rw [if_pos h10] at hst
        have HST := Lib.hid hst
        have h10' : (r == 10) = true := by simpa using h10
        clear hst h10
        go_wp2
        go_round
        case rel => exact ⟨i + 1, x + 1, 1, by omega, by go_num, rfl, rfl, HST.out, by omega, by omega, by omega, by omega⟩
        case measure => simp [intOf]; omega
      · rw [if_neg h10] at hst
        have HST := Lib.hid hst
        have h10' : (r == 10) = false := by simpa using h10
        clear hst h10
        go_wp2
        go_round
        case rel => exact ⟨i + 1, x, y + 1, by omega, by go_num, rfl, rfl, HST.out, by omega, by omega, by omega, by omega⟩
        case measure => simp [intOf]; omega
    · have hie : ps.take i = ps := List.take_of_length_le (by omega)
      have hfin : placeV l = .tuple #[.int .i64 x, .int .i64 y] := by
        have := hsc.out
        rw [hie] at this
        rw [HV.out, this]
      have HF := Lib.hid hfin
      clear hfin hie
      go_wp2
      go_ret2
      exact ⟨by rw [HF.out]; rfl, hb1⟩

/-! ### the program's place -/
theorem sl_take {k : IntKind} {w : World} {a : Option Addr} {cap : Nat} {l : List Int} (h : Sl k w a cap l) (n : Nat) (hn : n ≤ l.length) : Sl k w a cap (l.take n) := by
  have e : (l.take n).length = n := by simp; omega
  refine ⟨by rw [e]; have := h.le; omega, h.mx, ?_, h.nil⟩
  rcases h.rd with h1 | ⟨b, off, h1, h2, h3⟩
  · exact .inl (by rw [h1]; simp)
  · refine .inr ⟨b, off, h1, h2, fun i hi => ?_⟩
    rw [e] at hi
    rw [h3 i (by omega)]
    simp [List.getD_eq_getElem?_getD, hi]

theorem byt_take {l : List Int} (h : Byt l) (n : Nat) : Byt (l.take n) := by
  intro i hi
  simp at hi
  have := h i (by omega)
  rw [List.getD_eq_getElem?_getD, List.getElem?_take, if_pos (by omega), ← List.getD_eq_getElem?_getD]
  exact this

theorem byt_drop {l : List Int} (h : Byt l) (n : Nat) : Byt (l.drop n) := by
  intro i hi
  simp at hi
  have := h (n + i) (by omega)
  rw [List.getD_eq_getElem?_getD, List.getElem?_drop, ← List.getD_eq_getElem?_getD]
  exact this

theorem place_arg (a : Option Addr) (n cap : Nat) (p : Int) (w : World) (hn : n ≤ 9223372036854775807) (h : p < 0 ∨ (n : Int) < p) (h1 : -9223372036854775808 ≤ p) (h2 : p ≤ 9223372036854775807) :
    Calls Try.prog 19 #[.slice a n cap, .int .i64 p] w fun e w' => e = .returned (.tuple #[.int .i64 0, .int .i64 0, .int .u8 1]) ∧ w = w' := by
  by_cases k : p < 0
  · go_enter Try.func19, Try.ntmps19
    go_wp2
    go_ret3
    exact ⟨rfl, rfl⟩
  · have k' : (n : Int) < p := by omega
    go_enter Try.func19, Try.ntmps19
    go_wp2
    go_ret3
    exact ⟨rfl, rfl⟩
end Go.Proofs.Ytchepcokcbpmmaa
