import Derived.Test.YtchepcokcbpmmaaP
namespace Go.Proofs.Ytchepcokcbpmmaa
open Go.RowKit RM
set_option linter.unusedVariables false

theorem place_no (a : Option Addr) (cap : Nat) (l : List Int) (p : Nat) (w : World) (h : Sl .u8 w a cap l) (hb : Byt l) (hp : p ≤ l.length) (hw : (run (l.take p)).2 < (l.take p).length) :
    Calls Try.prog 19 #[.slice a l.length cap, .int .i64 p] w fun e w' => e = .returned (.tuple #[.int .i64 0, .int .i64 0, .int .u8 3]) ∧ w = w' := by
  have hcap := h.le
  have hmax := h.mx
  have hchk := Check_any a cap (l.take p) w (sl_take h p hp) (byt_take hb p)
  have hwr : wrongOf (l.take p) = ((run (l.take p)).2 : Int) := by unfold wrongOf; rw [if_pos hw]
  have hlen : (l.take p).length = p := by simp; omega
  rw [hwr, hlen] at hchk
  generalize (run (l.take p)).2 = q at *
  have HC := Lib.hid hchk
  have hpc : p ≤ cap := by omega
  clear hchk hwr hlen hw hb
  cases a with
  | none =>
    obtain rfl := h.nil rfl
    have hp0 : p = 0 := by omega
    subst hp0
    have hl0 : l.length = 0 := by omega
    have HL := Lib.hid hl0
    clear h hl0
    go_enter Try.func19, Try.ntmps19
    go_wp2_with (go_at_call 17; refine HC.out.mono ?_; rintro e w' ⟨rfl, rfl⟩)
    go_ret3
    exact ⟨rfl, rfl⟩
  | some ad =>
    clear h
    go_enter Try.func19, Try.ntmps19
    go_wp2_with (go_at_call 17; refine HC.out.mono ?_; rintro e w' ⟨rfl, rfl⟩)
    go_ret3
    exact ⟨rfl, rfl⟩

theorem sl_drop {k : IntKind} {w : World} {ad : Addr} {cap : Nat} {l : List Int} (h : Sl k w (some ad) cap l) (g : Nat) (hg : g ≤ l.length) (ad' : Addr) (he : g < l.length → ad' = ad.add g) : Sl k w (some ad') (cap - g) (l.drop g) := by
  have e : (l.drop g).length = l.length - g := by simp
  have hcap := h.le
  have hmax := h.mx
  refine ⟨by rw [e]; omega, by omega, ?_, fun h => by cases h⟩
  rcases h.rd with h1 | ⟨b, off, h1, h2, h3⟩
  · exact .inl (by rw [h1]; simp)
  · by_cases hlt : g < l.length
    · cases h1
      refine .inr ⟨b, off + g, ?_, h2, fun i hi => ?_⟩
      · rw [he hlt, add_at]
      · rw [e] at hi
        rw [Nat.add_assoc, h3 (g + i) (by omega)]
        simp [List.getD_eq_getElem?_getD]
    · exact .inl (List.drop_eq_nil_of_le (by omega))

theorem walk_at (a : Option Addr) (n cap : Nat) (l : List Int) (w : World) (h : Sl .u8 w a cap l) (hb : Byt l) (hn : l.length = n) :
    Calls Try.prog 24 #[.slice a n cap] w fun e w' => e = .returned (.tuple #[.int .i64 (run l).1.length, .int .i64 (run l).2]) ∧ w = w' := by
  subst hn
  exact walk_any a cap l w h hb

theorem place_ok (a : Option Addr) (cap : Nat) (l : List Int) (p : Nat) (w : World) (h : Sl .u8 w a cap l) (hb : Byt l) (hp : p ≤ l.length) (hL : l.length ≤ 5000) (hw : ¬ (run (l.take p)).2 < (l.take p).length) :
    Calls Try.prog 19 #[.slice a l.length cap, .int .i64 p] w fun e w' => e = .returned (.tuple #[.int .i64 (scan 1 1 (run (l.take p)).1).1, .int .i64 (scan 1 1 (run (l.take p)).1).2, .int .u8 0]) ∧ Below w.heap.size w w' := by
  have hcap := h.le
  have hmax := h.mx
  have hlen : (l.take p).length = p := by simp; omega
  have hm := sl_take h p hp
  have hbm := byt_take hb p
  have hwr : wrongOf (l.take p) = -1 := by unfold wrongOf; rw [if_neg hw]
  have hchk := Check_any a cap (l.take p) w hm hbm
  rw [hwr] at hchk
  obtain ⟨g, hg⟩ := begins_ex (l.take p)
  obtain ⟨hfl, hpt⟩ := run_flat (l.take p)
  have hfull : (l.take p).take (run (l.take p)).2 = l.take p := List.take_of_length_le (by omega)
  rw [hfull] at hfl
  have hsc := place_eq hpt (g := g) (by rw [hfl]; exact hg)
  rw [hfl] at hsc
  have hg1 := (begins_facts hg).1
  rw [hlen] at hg1
  have hrl := (run_le ((l.take p).drop g)).2
  have hcl : (l.take p).count 10 ≤ (l.take p).length := List.count_le_length
  have hdl : ((l.take p).drop g).length = p - g := by simp; omega
  rw [hdl] at hrl
  rw [hsc]
  have hcnt : ∀ (x : Nat) (w : World), Sl .u8 w a cap (l.take p) → w.cell? ⟨x, 0, none⟩ = some (.int .u8 10) → Calls Try.prog 25 #[.slice a p cap, .slice (some ⟨x, 0, none⟩) 1 1] w fun e w' => e = .returned (.int .i64 ((l.take p).count 10)) ∧ w = w' := by
    intro x w1 hs hx
    have := count_any a cap (l.take p) x w1 hs hbm hx
    rw [hlen] at this
    exact this
  have hlast : ∀ w1, Sl .u8 w1 a cap (l.take p) → Calls Try.prog 26 #[.slice a p cap, .int .u8 10] w1 fun e w' => e = .returned (.int .i64 ((g : Int) - 1)) ∧ w1 = w' := by
    intro w1 hs
    have := Last_any a cap (l.take p) g w1 hs hbm hg
    rw [hlen] at this
    exact this
  have hbd := byt_drop hbm g
  have hwalk : ∀ a' c' w1, Sl .u8 w1 a' c' ((l.take p).drop g) → Calls Try.prog 24 #[.slice a' (p - g) c'] w1 fun e w' => e = .returned (.tuple #[.int .i64 (run ((l.take p).drop g)).1.length, .int .i64 (run ((l.take p).drop g)).2]) ∧ w1 = w' :=
    fun a' c' w1 hs => walk_at a' (p - g) c' _ w1 hs hbd hdl
  rw [hlen] at hchk hcl
  have HC := Lib.hid hchk
  have HM := Lib.hid hm
  have HCNT := Lib.hid hcnt
  have HLAST := Lib.hid hlast
  have HWALK := Lib.hid hwalk
  have HLEN := Lib.hid hlen
  clear hchk hm hcnt hlast hbd hdl hwr hfull hfl hpt hsc hg hbm hlen hw hb hwalk
  generalize (run ((l.take p).drop g)).1.length = nc at *
  generalize (run ((l.take p).drop g)).2 = nq at *
  generalize (l.take p).count 10 = nl at *
  cases a with
  | none =>
    obtain rfl := h.nil rfl
    have hp0 : p = 0 := by omega
    subst hp0
    have hg0 : g = 0 := by omega
    subst hg0
    have hl0 : l.length = 0 := by omega
    have hs1 : Sl .u8 (w.alloc (.cells #[.int .u8 10] 5)) none 0 ((l.take 0).drop 0) := ⟨by simp, by omega, .inl (by simp), fun _ => rfl⟩
    have HS1 := Lib.hid hs1
    have HL := Lib.hid hl0
    clear h hl0 hs1
    go_enter Try.func19, Try.ntmps19
    go_wp2_with (go_at_call 17; refine HC.out.mono ?_; rintro e w' ⟨rfl, rfl⟩)
    refine (HCNT.out w.heap.size _ (HM.out.below ((Below.refl _ _).alloc (Nat.le_refl _) _)) ?_).mono ?_
    · rw [World.cell?_alloc_at _ _ _ _ rfl]; rfl
    rintro e w' ⟨rfl, rfl⟩
    go_wp2_with fail
    refine (HLAST.out _ (HM.out.below ((Below.refl _ _).alloc (Nat.le_refl _) _))).mono ?_
    rintro e w' ⟨rfl, rfl⟩
    go_wp2_with fail
    refine (HWALK.out _ _ _ HS1.out).mono ?_
    rintro e w' ⟨rfl, rfl⟩
    go_wp2_with fail
    go_ret3
    exact ⟨rfl, (Below.refl _ _).alloc (Nat.le_refl _) _⟩
  | some ad =>
    clear h
    by_cases hgc : g < cap
    · have hs1 : Sl .u8 (w.alloc (.cells #[.int .u8 10] 5)) (some (ad.add g)) (cap - g) ((l.take p).drop g) := sl_drop (HM.out.below ((Below.refl _ _).alloc (Nat.le_refl _) _)) g (by rw [HLEN.out]; exact hg1) _ (fun _ => rfl)
      have HS1 := Lib.hid hs1
      clear hs1
      go_enter Try.func19, Try.ntmps19
      go_wp2_with (go_at_call 17; refine HC.out.mono ?_; rintro e w' ⟨rfl, rfl⟩)
      refine (HCNT.out w.heap.size _ (HM.out.below ((Below.refl _ _).alloc (Nat.le_refl _) _)) ?_).mono ?_
      · rw [World.cell?_alloc_at _ _ _ _ rfl]; rfl
      rintro e w' ⟨rfl, rfl⟩
      go_wp2_with fail
      refine (HLAST.out _ (HM.out.below ((Below.refl _ _).alloc (Nat.le_refl _) _))).mono ?_
      rintro e w' ⟨rfl, rfl⟩
      go_wp2_with fail
      refine (HWALK.out _ _ _ HS1.out).mono ?_
      rintro e w' ⟨rfl, rfl⟩
      go_wp2_with fail
      go_ret3
      exact ⟨rfl, (Below.refl _ _).alloc (Nat.le_refl _) _⟩
    · have hgc' : cap = g := by omega
      have hs1 : Sl .u8 (w.alloc (.cells #[.int .u8 10] 5)) (some ad) (cap - g) ((l.take p).drop g) := sl_drop (HM.out.below ((Below.refl _ _).alloc (Nat.le_refl _) _)) g (by rw [HLEN.out]; exact hg1) _ (fun h => by rw [HLEN.out] at h; omega)
      rw [show cap - g = 0 from by omega] at hs1
      have HS1 := Lib.hid hs1
      clear hs1 hgc
      subst hgc'
      go_enter Try.func19, Try.ntmps19
      go_wp2_with (go_at_call 17; refine HC.out.mono ?_; rintro e w' ⟨rfl, rfl⟩)
      refine (HCNT.out w.heap.size _ (HM.out.below ((Below.refl _ _).alloc (Nat.le_refl _) _)) ?_).mono ?_
      · rw [World.cell?_alloc_at _ _ _ _ rfl]; rfl
      rintro e w' ⟨rfl, rfl⟩
      go_wp2_with fail
      refine (HLAST.out _ (HM.out.below ((Below.refl _ _).alloc (Nat.le_refl _) _))).mono ?_
      rintro e w' ⟨rfl, rfl⟩
      go_wp2_with fail
      refine (HWALK.out _ _ _ HS1.out).mono ?_
      rintro e w' ⟨rfl, rfl⟩
      go_wp2_with fail
      go_ret3
      exact ⟨rfl, (Below.refl _ _).alloc (Nat.le_refl _) _⟩
end Go.Proofs.Ytchepcokcbpmmaa
