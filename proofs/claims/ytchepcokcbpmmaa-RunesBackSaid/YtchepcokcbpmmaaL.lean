import Derived.Test.YtchepcokcbpmmaaK
namespace Go.Proofs.Ytchepcokcbpmmaa
open Go.RowKit RM
set_option linter.unusedVariables false

theorem flat_snoc (ks : List Int) (r : Int) : flat (ks ++ [r]) = flat ks ++ encB r := by rw [flat_append]; simp [flat]

theorem take_getD {ks : List Int} {i : Nat} (h : i < ks.length) : ks.take (i + 1) = ks.take i ++ [ks.getD i 0] := by
  rw [List.take_succ_eq_append_getElem h, List.getD_eq_getElem?_getD, List.getElem?_eq_getElem h]; rfl

theorem flat_dec {ks : List Int} (hk : ∀ r ∈ ks, isPt r = true) {i : Nat} (h : i < ks.length) : Dec (flat ks) (flat (ks.take i)).length (ks.getD i 0) := by
  have e : ks = ks.take i ++ (ks.getD i 0 :: ks.drop (i + 1)) := by
    conv => lhs; rw [← List.take_append_drop i ks, drop_getD h]
  have hm : ks.getD i 0 ∈ ks := by
    rw [List.getD_eq_getElem?_getD, List.getElem?_eq_getElem h]; simp
  have e2 : flat ks = flat (ks.take i) ++ (encB (ks.getD i 0) ++ flat (ks.drop (i + 1))) := by
    conv => lhs; rw [e]
    rw [flat_append]; rfl
  rw [e2]
  exact dec_back _ (hk _ hm) _

theorem flat_step {ks : List Int} {i : Nat} (h : i < ks.length) : (flat (ks.take (i + 1))).length = (flat (ks.take i)).length + (encB (ks.getD i 0)).length := by
  rw [take_getD h, flat_snoc]; simp

theorem flat_le (ks : List Int) : (flat ks).length ≤ 4 * ks.length := by
  induction ks with
  | nil => simp [flat]
  | cons r rs ih => have := (encB_len r).2; simp [flat]; omega

theorem byt_flat {ks : List Int} (hk : ∀ r ∈ ks, isPt r = true) : Byt (flat ks) := by
  induction ks with
  | nil => intro i hi; simp [flat] at hi
  | cons r rs ih => exact byt_append (byt_enc (hk r (by simp))) (ih fun x hx => hk x (by simp [hx]))

theorem flat_run {ks : List Int} (hk : ∀ r ∈ ks, isPt r = true) : wrongOf (flat ks) = -1 ∧ countV (flat ks) = .tuple #[.int .i64 ks.length, .int .u8 0] := by
  have h := run_of_flat hk
  constructor
  · unfold wrongOf; rw [h, if_neg (by simp)]
  · unfold countV; rw [h, if_neg (by simp)]

/-- What has been kept of the first j numbers. -/
def kept (l : List Int) (j : Nat) : List Int := (l.take j).filter isPt
theorem kept_pt (l : List Int) (j : Nat) : ∀ r ∈ kept l j, isPt r = true := by
  intro r hr; exact (List.mem_filter.1 hr).2
theorem kept_len (l : List Int) (j : Nat) : (kept l j).length ≤ j := Nat.le_trans (List.length_filter_le _ _) (List.length_take_le _ _)
theorem kept_hit {l : List Int} {j : Nat} (h : j < l.length) (hp : isPt (l.getD j 0) = true) : kept l (j + 1) = kept l j ++ [l.getD j 0] := by
  unfold kept; rw [take_getD h, List.filter_append]; simp only [List.filter_cons, hp, if_true, List.filter_nil]
theorem kept_miss {l : List Int} {j : Nat} (h : j < l.length) (hp : isPt (l.getD j 0) = false) : kept l (j + 1) = kept l j := by
  unfold kept; rw [take_getD h, List.filter_append]; simp only [List.filter_cons, hp, List.filter_nil]; simp

theorem sl_grown {k : IntKind} {w w' : World} {a : Option Addr} {cap : Nat} {l : List Int} {o : Obj} {row : Option Nat} (h : Sl k w a cap l) (hg : (w.alloc o).grownBy w' row)
    (hne : ∀ ad, a = some ad → some ad.block ≠ row) : Sl k w' a cap l := by
  refine ⟨h.le, h.mx, ?_, h.nil⟩
  rcases h.rd with h1 | ⟨b, off, h1, h2, h3⟩
  · exact .inl h1
  · have hs := hg.size
    simp at hs
    refine .inr ⟨b, off, h1, by omega, fun i hi => ?_⟩
    have e : w'.heap[b]? = (w.alloc o).heap[b]? := hg.block b (by simp; omega) (hne _ h1)
    have e2 : (w.alloc o).heap[b]? = w.heap[b]? := Below.heap_alloc _ _ _ h2
    rw [World.cell?_of_block (w := w) (a := ⟨b, off + i, none⟩) (e.trans e2)]
    exact h3 i hi

theorem info21 : (Try.prog.info? 21).map (fun i => (i.zero, i.size, i.bytes)) = some (some (.int .i32 0), 1, 4) := by kernel_rfl

set_option maxHeartbeats 2000000 in
/-- THE LAW RunesBack. -/
theorem law_back (a : Option Addr) (cap : Nat) (l : List Int) (w : World) (h : Sl .i32 w a cap l) (hb : ∀ i, i < l.length → -2147483648 ≤ l.getD i 0 ∧ l.getD i 0 ≤ 2147483647) :
    Calls Try.prog 7 #[.slice a l.length cap] w fun e w' => e = .returned (.bool true) ∧ Below w.heap.size w w' := by
  have hcap := h.le
  have hmax := h.mx
  have HS := Lib.hid h
  have HB := Lib.hid hb
  clear h hb
  obtain ⟨i0, hi, hz0, hz1, hz2⟩ := info_parts info21
  by_cases hL : l.length ≤ 500
  · go_enter Try.func7, Try.ntmps7
    go_wp2_with (go_at_call 8; refine (alive_any _).mono ?_; rintro e w1 ⟨rfl, hb1⟩)
    have HS1 := Lib.hid (HS.out.below hb1)
    have hsz1 := hb1.size
    go_loopw [3, 4, 5, 6, 7] (fun b kv iv _ _ wx => ∃ (j : Nat) (ks bl : List Int) (ab : Option Addr) (cb : Nat), j ≤ l.length ∧ iv = .int .i64 j ∧ Hid (ks = kept l j) ∧ Hid (bl = flat ks) ∧ b = .slice ab bl.length cb ∧
        Hid (Sl .u8 wx ab cb bl) ∧ ks.length ≤ j ∧ bl.length ≤ 4 * j ∧ Hid (wx.ownsRow w.heap.size 21 1 kv ks.length (ks.map (Value.int .i32))) ∧ Below w.heap.size w wx) (fun _ _ iv _ _ _ => l.length - (intOf iv).toNat)
    case atStart => exact ⟨0, [], [], none, 0, by omega, rfl, rfl, rfl, rfl, ⟨by simp, by omega, .inl rfl, fun _ => rfl⟩, by simp, by simp, World.ownsRow_nil _ _ _ _, hb1⟩
    case round =>
      obtain ⟨j, ks, bl, ab, cb, hj, rfl, hks, hbl, rfl, hsb, hkl, hbll, hown, hbel⟩ := hrel
      have hszr := hbel.size
      by_cases hlt : j < l.length
      · rcases HS.out.rd with e | ⟨bb, off, rfl, hlb, hc⟩
        · rw [e] at hlt; simp at hlt
        have hbr : bb < wr.heap.size := by omega
        have hcell : wr.cell? ⟨bb, off + j, none⟩ = some (.int .i32 (l.getD j 0)) := by
          rw [hbel.cell (p := ⟨bb, off + j, none⟩) hlb]; exact hc j hlt
        have hrng := HB.out j hlt
        have hkhit := kept_hit hlt
        have hkmiss := kept_miss hlt
        clear hc
        generalize l.getD j 0 = r at *
        obtain ⟨hr1, hr2⟩ := hrng
        by_cases hp : isPt r = true
        · have HK := Lib.hid (hkhit hp)
          have HP := Lib.hid hp
          obtain ⟨bl', hbl'⟩ : ∃ bl', bl' = bl ++ encB r := ⟨_, rfl⟩
          have hput : Calls Try.prog 11 #[.slice ab bl.length cb, .int .i32 r] wr (PutPost bl' wr) := by rw [hbl']; exact put_ok ab cb bl r wr hsb.out (by omega) hp
          have HPUT := Lib.hid hput
          have hbf : bl' = flat (ks ++ [r]) := by rw [hbl', hbl.out, flat_snoc]
          have hbl5 : bl'.length ≤ 4 * (j + 1) := by
            have := (encB_len r).2
            rw [hbl', List.length_append]; omega
          have HBF := Lib.hid hbf
          clear hkhit hkmiss hp hput hbf hbl'
          go_wp2_with fail
          refine HPUT.out.mono ?_
          rintro e w2 ⟨a2, c2, rfl, hs2, hb2, hfr⟩
          have hne2 : ∀ ad, a2 = some ad → some ad.block ≠ u4.ownBlock := fun ad he hk => by
            have h1 := hfr ad he
            have h2 := (hown.out.lt _ hk.symm).2
            omega
          have HNE2 := Lib.hid hne2
          clear hfr hne2
          have hown2 := owns_below hown.out hb2
          have hbel2 := hbel.trans (hb2.mono hszr)
          have hsz2 := hbel2.size
          have hcell2 : w2.cell? ⟨bb, off + j, none⟩ = some (.int .i32 r) := by
            rw [hb2.cell (p := ⟨bb, off + j, none⟩) hbr]; exact hcell
          have hbw2 : bb < w2.heap.size := by omega
          have HOWN2 := Lib.hid hown2
          have HS2 := Lib.hid hs2
          have HBEL2 := Lib.hid hbel2
          clear hown2 hs2 hbel2 hb2 hcell hown hsb hbel
          go_wp2_with (at_builtin; refine wpList_append_own _ rfl (.tmp 37) (.tmp 42) 45 rfl w.heap.size 21 i0 (.int .i32 0) 1 4 Try.underlying45 hi hz0 hz1 hz2 rfl (by decide) _ _ _ rfl (HOWN2.out.alloc _) ⟨w2.heap.size, 0, none⟩ 1 1 [.int .i32 r] rfl rfl ?c1 ?c2 ?c3 ?c4 ?c5 ?_)
          case c1 => exact cells_new w2 _ 21
          case c2 => intro u hu; simp at hu; subst hu; rfl
          case c3 => unfold maxLen; omega
          case c4 => omega
          case c5 => simp; omega
          intro v3 w3 hown3 hgrow3 hnil3
          have hbel3 : Below w.heap.size w w3 := (HBEL2.out.alloc hsz2 _).grown hgrow3 (by simp; omega) (fun k hk => (HOWN2.out.lt k hk).1)
          have hs3 : Sl .u8 w3 a2 c2 bl' := sl_grown HS2.out hgrow3 HNE2.out
          clear hgrow3 hnil3
          go_wp2_with fail
          go_roundw
          case rel =>
            refine ⟨j + 1, ks ++ [r], bl', a2, c2, by omega, by go_num, ?_, HBF.out, rfl, hs3, ?_, hbl5, ?_, hbel3⟩
            · show ks ++ [r] = kept l (j + 1)
              rw [HK.out, hks.out]
            · rw [List.length_append]; simp; omega
            · show w3.ownsRow w.heap.size 21 1 v3 (ks ++ [r]).length ((ks ++ [r]).map (Value.int .i32))
              simpa using hown3
          case measure => simp [intOf]; omega
        · have hp' : isPt r = false := by simpa using hp
          have HK := Lib.hid (hkmiss hp')
          have HP := Lib.hid hp'
          clear hkhit hkmiss hp hp'
          go_wp2_with fail
          refine (put_no _ _ _ _ _ HP.out hr1 hr2).mono ?_
          rintro e w2 ⟨rfl, rfl⟩
          go_wp2_with fail
          go_roundw
          case rel => exact ⟨j + 1, ks, bl, ab, cb, by omega, by go_num, hks.out.trans HK.out.symm, hbl, rfl, hsb, by omega, by omega, hown, hbel⟩
          case measure => simp [intOf]; omega
      · obtain ⟨a4, c4, hv4, hs4⟩ := sl_of_owns hown.out
        subst hv4
        have hkp : ∀ r ∈ ks, isPt r = true := by rw [hks.out]; exact kept_pt l j
        have hbt : Byt bl := by rw [hbl.out]; exact byt_flat hkp
        have hlen : bl.length = (flat ks).length := by rw [hbl.out]
        have hfr := flat_run hkp
        rw [← hbl.out] at hfr
        have hcnt : ∀ wx, Sl .u8 wx ab cb bl → Calls Try.prog 16 #[.slice ab bl.length cb] wx fun e w' => e = .returned (.tuple #[.int .i64 ks.length, .int .u8 0]) ∧ wx = w' := fun wx hs => by
          rw [← hfr.2]; exact Count_any ab cb bl wx hs hbt
        have hchk : ∀ wx, Sl .u8 wx ab cb bl → Calls Try.prog 17 #[.slice ab bl.length cb] wx fun e w' => e = .returned (.int .i64 (-1)) ∧ wx = w' := fun wx hs => by
          rw [← hfr.1]; exact Check_any ab cb bl wx hs hbt
        have hdec : ∀ i, i < ks.length → Dec bl (flat (ks.take i)).length (ks.getD i 0) := fun i hi => by rw [hbl.out]; exact flat_dec hkp hi
        have HCNT := Lib.hid hcnt
        have HCHK := Lib.hid hchk
        have HDEC := Lib.hid hdec
        have HBT := Lib.hid hbt
        have HLEN := Lib.hid hlen
        have HS4 := Lib.hid hs4
        have HKP := Lib.hid hkp
        have hc4 := hs4.le
        have hm4 := hs4.mx
        clear hcnt hchk hdec hbt hlen hs4 hfr hkp hown
        go_wp2_with fail
        refine (HCNT.out _ hsb.out).mono ?_
        rintro e w2 ⟨rfl, rfl⟩
        go_wp2_with fail
        go_loop [10, 11, 12, 13, 14] (fun av iv _ _ _ => ∃ (i p : Nat), i ≤ ks.length ∧ iv = .int .i64 i ∧ av = .int .i64 p ∧ Hid (p = (flat (ks.take i)).length) ∧ p ≤ 4 * i) (fun _ iv _ _ _ => ks.length - (intOf iv).toNat)
        case atStart => exact ⟨0, 0, by omega, rfl, rfl, rfl, by omega⟩
        case round =>
          obtain ⟨i, p, hile, rfl, rfl, hp, hp4⟩ := hrel
          by_cases hil : i < ks.length
          · rcases HS4.out.rd with e | ⟨b4, off4, rfl, hlb4, hc⟩
            · rw [e] at hil; simp at hil
            have hcell := hc i hil
            have hd := HDEC.out i hil
            have hst := flat_step hil
            rw [← hp.out] at hd hst
            have hlen := encB_len (ks.getD i 0)
            generalize ks.getD i 0 = r at *
            clear hc
            have HD := Lib.hid hd
            clear hd
            generalize hk : (encB r).length = k at *
            have HK := Lib.hid hk.symm
            have HST := Lib.hid hst
            clear hk hst
            have hne : ((r : Int) != r) = false := by simp
            go_wp2_with fail
            refine (next_ok _ _ _ _ _ _ _ hsb.out HBT.out HD.out HK.out).mono ?_
            rintro e w' ⟨rfl, rfl⟩
            go_wp2_with fail
            go_round
            case rel => exact ⟨i + 1, p + k, by omega, by go_num, by go_num, HST.out.symm, by omega⟩
            case measure => simp [intOf]; omega
          · have hie : i = ks.length := by omega
            have hpe : p = bl.length := by rw [hp.out, HLEN.out, hie, List.take_length]
            subst hpe
            clear hie
            go_wp2_with fail
            refine (HCHK.out _ hsb.out).mono ?_
            rintro e w2 ⟨rfl, rfl⟩
            go_wp2_with fail
            go_ret
            exact ⟨rfl, hbel⟩
  · go_enter Try.func7, Try.ntmps7
    go_wp2_with (go_at_call 8; refine (alive_any _).mono ?_; rintro e w1 ⟨rfl, hb1⟩)
    go_ret
    exact ⟨rfl, hb1⟩
end Go.Proofs.Ytchepcokcbpmmaa
