import Derived.Test.YtchepcokcbpmmaaG
namespace Go.Proofs.Ytchepcokcbpmmaa
open Go.RowKit RM
set_option linter.unusedVariables false

theorem Wrong_any (a : Option Addr) (cap : Nat) (l : List Int) (w : World) (h : Sl .u8 w a cap l) (hb : Byt l) (hL : l.length ≤ 5000) :
    Calls Try.prog 15 #[.slice a l.length cap] w fun e w' => e = .returned (.int .i64 (wrongOf l)) ∧ Below w.heap.size w w' := by
  have hcap := h.le
  have hmax := h.mx
  have HS := Lib.hid h
  have HB := Lib.hid hb
  clear h hb
  go_enter Try.func15, Try.ntmps15
  go_wp2_with fail
  go_loopw [3, 4, 5] (fun e _ _ w1 => ∃ (p : Nat) (acc : List Int), Hid (RM.Met l p acc) ∧ p ≤ l.length ∧ e = .int .i64 p ∧ Below w.heap.size w w1) (fun e _ _ _ => l.length - (intOf e).toNat)
  case atStart => exact ⟨0, [], RM.Met.start l, by omega, rfl, Below.refl _ _⟩
  case round =>
    obtain ⟨p, acc, hm, hp, rfl, hbel⟩ := hrel
    by_cases hlt : p < l.length
    · by_cases hd : ∃ r, Dec l p r
      · obtain ⟨r, hd⟩ := hd
        have hlen := encB_len r
        have hfit := hd.fits
        have hm' : RM.Met l (p + (encB r).length) (acc ++ [r]) := by
          have := hm.out.step (by rw [hd.n]; omega)
          rw [hd.n, hd.r] at this
          exact this
        have HD := Lib.hid hd
        clear hd
        generalize hk : (encB r).length = k at *
        have HK := Lib.hid hk.symm
        have HM := Lib.hid hm'
        clear hk hm'
        have hk0 : ((k : Int) == 0) = false := by simp; omega
        go_wp2_with fail
        refine (at_ok _ _ _ _ _ _ _ (HS.out.below hbel) HB.out hL HD.out HK.out).mono ?_
        rintro e w' ⟨rfl, hb1⟩
        go_wp2_with fail
        go_roundw
        case rel => exact ⟨p + k, _, HM.out, by omega, by go_num, hbel.trans (hb1.mono hbel.size)⟩
        case measure => simp [intOf]; omega
      · have hd' : ∀ r, ¬ Dec l p r := fun r hr => hd ⟨r, hr⟩
        have hr : wrongOf l = p := by
          unfold wrongOf
          rw [hm.out.stop (dec_none hd').2, if_pos hlt]
        have HR := Lib.hid hr
        have HD := Lib.hid hd'
        clear hr hd hd'
        go_wp2_with fail
        refine (at_no _ _ _ _ _ (HS.out.below hbel) HB.out hL hlt HD.out).mono ?_
        rintro e w' ⟨rfl, hb1⟩
        go_wp2_with fail
        go_ret
        exact ⟨by rw [HR.out]; rfl, hbel.trans (hb1.mono hbel.size)⟩
    · have hr : wrongOf l = -1 := by
        have := hm.out.atEnd (by omega)
        unfold wrongOf
        rw [this.1, if_neg hlt]
      have HR := Lib.hid hr
      clear hr
      go_wp2_with fail
      go_ret
      exact ⟨by rw [HR.out]; rfl, hbel⟩

theorem info3 : (Try.prog.info? 3).map (fun i => (i.zero, i.size, i.bytes)) = some (some (.int .i64 0), 1, 8) := by kernel_rfl

theorem sl_of_owns {w : World} {base : Nat} {e : TypeId} {k : IntKind} {v : Value} {n : Nat} {l : List Int} (h : w.ownsRow base e 1 v n (l.map (Value.int k))) :
    ∃ a cap, v = .slice a l.length cap ∧ Sl k w a cap l := by
  obtain ⟨h1, h2⟩ := h
  simp at h1
  subst h1
  rcases h2 with ⟨rfl, h0⟩ | ⟨g, cap, cur, rfl, hg, hh, hn, hm, hs, ht⟩
  · have : l = [] := List.length_eq_zero_iff.1 h0
    subst this
    exact ⟨none, 0, rfl, by simp, by omega, .inl rfl, fun _ => rfl⟩
  · refine ⟨_, cap, rfl, hn, by unfold maxLen at hm; omega, .inr ⟨g, 0, rfl, ?_, fun i hi => ?_⟩, fun h => by cases h⟩
    · by_cases hlt : g < w.heap.size
      · exact hlt
      · rw [Array.getElem?_eq_none (by omega)] at hh; cases hh
    · have e1 : cur[i]? = some (.int k (l.getD i 0)) := by
        have e2 : (cur.toList.take (l.length * 1))[i]? = (l.map (Value.int k))[i]? := by rw [ht]
        rw [List.getElem?_take, if_pos (by omega)] at e2
        rw [← Array.getElem?_toList, e2]
        simp [List.getD_eq_getElem?_getD, List.getElem?_eq_getElem hi]
      unfold World.cell?
      simp only [hh, Nat.zero_add]
      simpa using e1

theorem owns_below {w w' : World} {base : Nat} {e : TypeId} {size : Nat} {v : Value} {n : Nat} {xs : List Value} (h : w.ownsRow base e size v n xs) (hb : Below w.heap.size w w') : w'.ownsRow base e size v n xs := by
  obtain ⟨h1, h2⟩ := h
  refine ⟨h1, ?_⟩
  rcases h2 with h2 | ⟨g, cap, cur, hv, hg, hh, r⟩
  · exact Or.inl h2
  · refine Or.inr ⟨g, cap, cur, hv, hg, ?_, r⟩
    have : g < w.heap.size := by
      by_cases hlt : g < w.heap.size
      · exact hlt
      · rw [Array.getElem?_eq_none (by omega)] at hh; cases hh
    rw [hb.block g this]; exact hh

theorem newSl_owns {w w' : World} {v : Value} {n T : Nat} {k : IntKind} {l : List Int} (h : w'.ownsRow w.heap.size T 1 v n (l.map (Value.int k))) (hb : Below w.heap.size w w') : NewSl k l w (.returned v) w' := by
  obtain ⟨a, cap, rfl, hs⟩ := sl_of_owns h
  exact ⟨a, cap, rfl, hs, hb⟩

theorem cell_new (w : World) (x : Value) (t : TypeId) : ∀ j u, [x][j]? = some u → (w.alloc (.cells #[x] t)).cell? ((⟨w.heap.size, 0, none⟩ : Addr).add j) = some u := by
  intro j u hj
  cases j with
  | zero =>
    simp at hj
    subst hj
    show (w.alloc (.cells #[x] t)).cell? ⟨w.heap.size, 0, none⟩ = some x
    rw [World.cell?_alloc_at _ _ _ _ rfl]; rfl
  | succ j => simp at hj

theorem Points_any (a : Option Addr) (cap : Nat) (l : List Int) (w : World) (h : Sl .u8 w a cap l) (hb : Byt l) (hL : l.length ≤ 5000) :
    Calls Try.prog 18 #[.slice a l.length cap] w (NewSl .i64 (run l).1 w) := by
  have hcap := h.le
  have hmax := h.mx
  have HS := Lib.hid h
  have HB := Lib.hid hb
  clear h hb
  obtain ⟨i0, hi, hz0, hz1, hz2⟩ := info_parts info3
  go_enter Try.func18, Try.ntmps18
  go_wp2_with fail
  go_loopw [3, 4, 5, 6] (fun o e _ _ w1 => ∃ (p n : Nat) (acc : List Int), Hid (RM.Met l p acc) ∧ p ≤ l.length ∧ n ≤ p ∧ Hid (acc.length = n) ∧ e = .int .i64 p ∧ w1.ownsRow w.heap.size 3 1 o n (acc.map (Value.int .i64)) ∧ Below w.heap.size w w1) (fun _ e _ _ _ => l.length - (intOf e).toNat)
  case atStart => exact ⟨0, 0, [], RM.Met.start l, by omega, by omega, rfl, rfl, World.ownsRow_nil _ _ _ _, Below.refl _ _⟩
  case round =>
    obtain ⟨p, n, acc, hm, hp, hnp, hn, rfl, hown, hbel⟩ := hrel
    by_cases hlt : p < l.length
    · by_cases hd : ∃ r, Dec l p r
      · obtain ⟨r, hd⟩ := hd
        have hlen := encB_len r
        have hfit := hd.fits
        have hm' : RM.Met l (p + (encB r).length) (acc ++ [r]) := by
          have := hm.out.step (by rw [hd.n]; omega)
          rw [hd.n, hd.r] at this
          exact this
        have HD := Lib.hid hd
        clear hd
        generalize hk : (encB r).length = k at *
        have HK := Lib.hid hk.symm
        have HM := Lib.hid hm'
        clear hk hm'
        have hk0 : ((k : Int) == 0) = false := by simp; omega
        go_wp2_with fail
        refine (at_ok _ _ _ _ _ _ _ (HS.out.below hbel) HB.out hL HD.out HK.out).mono ?_
        rintro e w' ⟨rfl, hb1⟩
        have hown1 := owns_below hown hb1
        have hbel1 := hbel.trans (hb1.mono hbel.size)
        have hsz1 := hbel1.size
        clear hown hbel hb1
        go_wp2_with (at_builtin; refine wpList_append_own _ rfl _ _ 39 rfl w.heap.size 3 i0 (.int .i64 0) 1 8 Try.underlying39 hi hz0 hz1 hz2 rfl (by decide) _ _ _ rfl (hown1.alloc _) ⟨w'.heap.size, 0, none⟩ 1 1 [.int .i64 r] rfl rfl ?c1 ?c2 ?c3 ?c4 ?c5 ?_)
        case c1 => exact cell_new _ _ _
        case c2 => intro u hu; simp at hu; subst hu; rfl
        case c3 => unfold maxLen; omega
        case c4 => omega
        case c5 => simp; omega
        intro v' w2 hown2 hgrow2 hnil2
        have hbel2 : Below w.heap.size w w2 := (hbel1.alloc hsz1 _).grown hgrow2 (by simp; omega) (fun k hk => (hown1.lt k hk).1)
        clear hown1 hgrow2 hbel1 hnil2
        go_wp2_with fail
        go_roundw
        case rel =>
          refine ⟨p + k, n + 1, acc ++ [r], HM.out, by omega, by omega, ?_, by go_num, ?_, hbel2⟩
          · show (acc ++ [r]).length = n + 1
            simp [hn.out]
          · simpa using hown2
        case measure => simp [intOf]; omega
      · have hd' : ∀ r, ¬ Dec l p r := fun r hr => hd ⟨r, hr⟩
        have hr : (run l).1 = acc := by rw [hm.out.stop (dec_none hd').2]
        have HR := Lib.hid hr
        have HD := Lib.hid hd'
        clear hr hd hd'
        go_wp2_with fail
        refine (at_no _ _ _ _ _ (HS.out.below hbel) HB.out hL hlt HD.out).mono ?_
        rintro e w' ⟨rfl, hb1⟩
        have hown1 := owns_below hown hb1
        have hbel1 := hbel.trans (hb1.mono hbel.size)
        go_wp2_with fail
        go_ret
        rw [HR.out]
        exact newSl_owns hown1 hbel1
    · have hr : (run l).1 = acc := by rw [(hm.out.atEnd (by omega)).1]
      have HR := Lib.hid hr
      clear hr
      go_wp2_with fail
      go_ret
      rw [HR.out]
      exact newSl_owns hown hbel
end Go.Proofs.Ytchepcokcbpmmaa
