import Derived.Test.YtipfbppkahfnmaaDoorLxJ
import Derived.Test.YtipfbppkahfnmaaDoorLxQ
import Derived.IntWalk
namespace Go.Proofs.YtipfbppkahfnmaaDoor
open Go.RowKit RM LM
set_option linter.unusedVariables false

/-- What the document's Tokens answers. -/
def RefToksPost (l : List Int) (w : World) (e : Ending) (w' : World) : Prop :=
  ∃ a cap, e = .returned (.tuple #[.slice a (toksV l).1.length cap, .int .i64 (toksV l).2.1, .int .i64 (toksV l).2.2]) ∧ Toks w' a cap (toksV l).1 ∧ Below w.heap.size w w'
theorem refToks_bad {l : List Int} {w w' : World} {x c : Int} (h : toksV l = ([], x, c)) (hb : Below w.heap.size w w') : RefToksPost l w (.returned (.tuple #[.slice none 0 0, .int .i64 x, .int .i64 c])) w' := by
  unfold RefToksPost
  rw [h]
  exact ⟨none, 0, rfl, toks_nil _, hb⟩
theorem refToks_good {l : List Int} {w w' : World} {B T n : Nat} {ts : List Tok} {v : Value} (h : toksV l = (ts, 0, 0)) (hb : Below w.heap.size w w') (hown : w'.ownsRow B T 4 v n (tokCells ts)) : RefToksPost l w (.returned (.tuple #[v, .int .i64 0, .int .i64 0])) w' := by
  unfold RefToksPost
  rw [h]
  obtain ⟨a, cap, rfl, hs⟩ := slV_owns hown
  have hl := hs.len
  rw [tokCells_len] at hl
  obtain rfl : ts.length = n := by omega
  exact ⟨a, cap, rfl, hs, hb⟩

theorem head_ten {l : List Int} {p : Nat} {r : Int} (h : Dec l p r) : l.getD p 0 = 10 ↔ r = 10 := by
  have hf := h.fits
  have h1 := (encB_len r).1
  obtain ⟨hpt, t, ht⟩ := h
  have hd := head_drop (l := l) (p := p) (by omega)
  rw [ht] at hd
  constructor
  · intro e
    rw [e] at hd
    have : (10 : Int) ∈ encB r := by
      cases hE : encB r with
      | nil => rw [hE] at h1; simp at h1
      | cons x xs => rw [hE] at hd; simp at hd; rw [hd.1]; simp
    exact (ten_mem hpt).1 this
  · intro e
    subst e
    have : encB 10 = [10] := rfl
    rw [this] at hd
    simp at hd
    exact hd.1.symm
theorem head_one {l : List Int} {p : Nat} {r : Int} (h : Dec l p r) (h1 : l.getD p 0 < 128) (h0 : 0 ≤ l.getD p 0) (hp : p < l.length) : (encB r).length = 1 := by
  have := h.uniq (dec_ascii hp h0 h1)
  subst this
  rw [(ascii h0 h1).2]; rfl
theorem headD_drop {l : List Int} {p : Nat} (h : p < l.length) : (l.drop p).headD 0 = l.getD p 0 := by rw [head_drop h]; rfl
theorem blank_cases {c : Int} (h : sortV c = 1) : c = 32 ∨ c = 9 ∨ c = 13 ∨ c = 10 := by
  unfold sortV at h
  repeat' split at h
  all_goals first | assumption | omega
theorem hash_case {c : Int} (h : sortV c = 2) : c = 35 := by
  unfold sortV at h
  repeat' split at h
  all_goals first | assumption | omega
theorem other_cases {c : Int} (h1 : sortV c ≠ 1) (h2 : sortV c ≠ 2) : (c == 32) = false ∧ (c == 9) = false ∧ (c == 13) = false ∧ (c == 10) = false ∧ (c == 35) = false := by
  refine ⟨?_, ?_, ?_, ?_, ?_⟩
  all_goals
    rw [beq_eq_false_iff_ne]
    rintro rfl
    first | exact h1 (by decide) | exact h2 (by decide)

theorem hit_more {l : List Int} {j : Nat} (hj : j < signL.length) (h1 : ∀ m (hm : m < signL.length), m < j → hit l signL[m] = false) (h2 : hit l signL[j] = false) : ∀ m (hm : m < signL.length), m < j + 1 → hit l signL[m] = false := by
  intro m hm hmj
  by_cases e : m < j
  · exact h1 m hm e
  · obtain rfl : m = j := by omega
    exact h2

set_option maxRecDepth 100000 in
set_option maxHeartbeats 4000000 in
theorem refTokens_any (a : Option Addr) (cap : Nat) (l : List Int) (w : World) (h : Sl .u8 w a cap l) (hb : Byt l) (hL : l.length ≤ 5000) :
    Calls Tryd.prog 9 #[.slice a l.length cap] w (RefToksPost l w) := by
  have hcap := h.le
  have hmax := h.mx
  have HS := Lib.hid h
  have HB := Lib.hid hb
  clear h hb
  obtain ⟨i0, hi, hz0, hz1, hz2⟩ := info_parts infoTok
  have HM := Lib.hid (RMet.mk (TMet.start (l := l) (by omega)))
  go_enter Tryd.func9, Tryd.ntmps9
  go_wp2_with fail
  refine (Own_any _).mono ?_
  rintro e wo ⟨ao, bo, rfl, _, hsig, hbo⟩
  have HG := Lib.hid hsig
  have HO := Lib.hid hbo
  clear hsig hbo
  go_wp2_with fail
  go_loopw [5, 8, 9, 10, 11, 12, 13, 14, 15, 16, 17, 18] (fun v i m _ _ _ _ _ _ _ _ _ w1 => ∃ (p n : Nat) (acc : List Tok) (rem : Bool), Hid (RMet l p acc rem) ∧ p ≤ l.length ∧ n ≤ p ∧ i = .int .i64 p ∧ m = .bool rem ∧ w1.ownsRow wo.heap.size 37 4 v n (tokCells acc) ∧ Below wo.heap.size wo w1) (fun _ i _ _ _ _ _ _ _ _ _ _ _ => l.length - (intOf i).toNat)
  case atStart => exact ⟨0, 0, [], false, HM.out, by omega, by omega, rfl, rfl, World.ownsRow_nil _ _ _ _, Below.refl _ _⟩
  case round =>
    obtain ⟨p, n, acc, rem, hm, hp, hnp, rfl, rfl, hown, hbel⟩ := hrel
    have hbelw : Below w.heap.size w wr := HO.out.trans (hbel.mono HO.out.size)
    have hsz : w.heap.size ≤ wr.heap.size := hbelw.size
    have HBW := Lib.hid hbelw
    clear hbelw
    by_cases hlt : p < l.length
    · rcases HS.out.rd with e | ⟨b, off, rfl, hlb, hc⟩
      · rw [e] at hlt; simp at hlt
      have hcw : ∀ w1, Below w.heap.size w w1 → w1.cell? ⟨b, off + p, none⟩ = some (.int .u8 (l.getD p 0)) := fun w1 hb1 => by
        rw [hb1.cell (p := ⟨b, off + p, none⟩) hlb]; exact hc p hlt
      obtain ⟨hb1, hb2⟩ := HB.out p hlt
      have HC := Lib.hid hc
      have hH := headD_drop hlt
      clear hc
      by_cases hd : ∃ r, Dec l p r
      · obtain ⟨r, hd⟩ := hd
        have hlen := encB_len r
        have hfit := hd.fits
        have hten := head_ten hd
        have hone := head_one hd
        have HD := Lib.hid hd
        have HH := Lib.hid hH
        have HAT := Lib.hid (fun w1 h1 => at_ok (some ⟨b, off, none⟩) cap l p r (encB r).length w1 h1 HB.out hL hd rfl)
        have HPT := Lib.hid (fun (h1 : RMet l p acc true) h2 => h1.point hd h2)
        clear hd
        generalize hk : (encB r).length = k at *
        have HK := Lib.hid hk
        clear hk
        obtain ⟨hk1, hk4⟩ := hlen
        have hk0 : ((k : Int) == 0) = false := by simp; omega
        cases rem with
        | true =>
          by_cases hr : r = 10
          · have hc10 := hten.2 hr
            have hk : k = 1 := hone (by omega) (by omega) hlt
            subst hk
            have HM2 := Lib.hid (hm.out.feed hlt hc10)
            rw [hc10] at hcw
            clear hten hone hr hc10 hH hb1 hb2
            go_wp2_with fail
            refine (HAT.out _ (HS.out.below HBW.out)).mono ?_
            rintro e w2 ⟨rfl, hb2⟩
            have hbw2 := HBW.out.trans (hb2.mono HBW.out.size)
            have hc0 := hcw _ hbw2
            have hbs : b < w2.heap.size := Nat.lt_of_lt_of_le hlb hbw2.size
            have hown2 := owns_below hown hb2
            have hbel2 := hbel.trans (hb2.mono hbel.size)
            have hsz2 := hbw2.size
            clear hown hbel hb2 hcw
            go_wp2_with fail
            go_roundw
            case rel => exact ⟨p + 1, n, acc, false, HM2.out, by omega, by omega, by go_num, rfl, hown2, hbel2⟩
            case measure => simp [intOf]; omega
          · have HM2 := Lib.hid (HPT.out hm.out hr)
            have hc10 : ((l.getD p 0) != 10) = true := by simp only [bne_iff_ne, ne_eq]; exact fun h => hr (hten.1 h)
            clear hten hone hr hH
            generalize l.getD p 0 = c at *
            go_wp2_with fail
            refine (HAT.out _ (HS.out.below HBW.out)).mono ?_
            rintro e w2 ⟨rfl, hb2⟩
            have hbw2 := HBW.out.trans (hb2.mono HBW.out.size)
            have hc0 := hcw _ hbw2
            have hbs : b < w2.heap.size := Nat.lt_of_lt_of_le hlb hbw2.size
            have hown2 := owns_below hown hb2
            have hbel2 := hbel.trans (hb2.mono hbel.size)
            have hsz2 := hbw2.size
            clear hown hbel hb2 hcw
            go_wp2_with fail
            go_roundw
            case rel => exact ⟨p + k, n, acc, true, HM2.out, by omega, by omega, by go_num, rfl, hown2, hbel2⟩
            case measure => simp [intOf]; omega
        | false =>
          have hone1 := hone
          have hsb := sort_bd (l.getD p 0)
          by_cases hs1 : sortV (l.getD p 0) = 1
          · have hk : k = 1 := hone (by have := sort_ascii (c := l.getD p 0) (by omega); omega) hb1 hlt
            subst hk
            have HM2 := Lib.hid (RMet.mk (hm.out.out.none hlt (piece_blank (by rw [hH]; exact hs1)) rfl))
            have hbl := blank_cases hs1
            clear hten hone hone1 hs1 hH hsb
            generalize l.getD p 0 = c at *
            rcases hbl with rfl | rfl | rfl | rfl
            all_goals
              go_wp2_with fail
              refine (HAT.out _ (HS.out.below HBW.out)).mono ?_
              rintro e w2 ⟨rfl, hb2⟩
              have hbw2 := HBW.out.trans (hb2.mono HBW.out.size)
              have hc0 := hcw _ hbw2
              have hbs : b < w2.heap.size := Nat.lt_of_lt_of_le hlb hbw2.size
              have hown2 := owns_below hown hb2
              have hbel2 := hbel.trans (hb2.mono hbel.size)
              have hsz2 := hbw2.size
              clear hown hbel hb2 hcw
              go_wp2_with fail
              go_roundw
              case rel => exact ⟨p + 1, n, acc, false, HM2.out, by omega, by omega, by go_num, rfl, hown2, hbel2⟩
              case measure => simp [intOf]; omega
          by_cases hs2 : sortV (l.getD p 0) = 2
          · have hk : k = 1 := hone (by have := sort_ascii (c := l.getD p 0) (by omega); omega) hb1 hlt
            subst hk
            have h35 := hash_case hs2
            have HM2 := Lib.hid (RMet.hash hm.out.out hlt h35)
            rw [h35] at hcw
            clear hten hone hone1 hs1 hs2 hH hsb h35 hb1 hb2
            go_wp2_with fail
            refine (HAT.out _ (HS.out.below HBW.out)).mono ?_
            rintro e w2 ⟨rfl, hb2⟩
            have hbw2 := HBW.out.trans (hb2.mono HBW.out.size)
            have hc0 := hcw _ hbw2
            have hbs : b < w2.heap.size := Nat.lt_of_lt_of_le hlb hbw2.size
            have hown2 := owns_below hown hb2
            have hbel2 := hbel.trans (hb2.mono hbel.size)
            have hsz2 := hbw2.size
            clear hown hbel hb2 hcw
            go_wp2_with fail
            go_roundw
            case rel => exact ⟨p + 1, n, acc, true, HM2.out, by omega, by omega, by go_num, rfl, hown2, hbel2⟩
            case measure => simp [intOf]; omega
          obtain ⟨e32, e9, e13, e10, e35⟩ := other_cases hs1 hs2
          by_cases hs4 : 4 ≤ sortV (l.getD p 0)
          · have HP4 := Lib.hid (show 4 ≤ sortV ((l.drop p).headD 0) by rw [hH]; exact hs4)
            have HIN := Lib.hid (show inRun (l.getD p 0) = true from decide_eq_true hs4)
            clear hten hone hone1 hs1 hs2 hs4 hH hsb HH
            generalize hcc : l.getD p 0 = c at *
            have HCC := Lib.hid hcc
            clear hcc
            go_wp2_with fail
            refine (HAT.out _ (HS.out.below HBW.out)).mono ?_
            rintro e w2 ⟨rfl, hb2⟩
            have hbw2 := HBW.out.trans (hb2.mono HBW.out.size)
            have hc0 := hcw _ hbw2
            have hbs : b < w2.heap.size := Nat.lt_of_lt_of_le hlb hbw2.size
            have hown2 := owns_below hown hb2
            have hbel2 := hbel.trans (hb2.mono hbel.size)
            have hsz2 := hbw2.size
            have HBW2 := Lib.hid hbw2
            clear hown hbel hb2 hcw hbw2
            go_wp2_with fail
            go_loop [13] (fun e => ∃ q : Nat, p ≤ q ∧ q ≤ l.length ∧ e = .int .i64 q ∧ Hid (∀ j, p ≤ j → j < q → inRun (l.getD j 0) = true)) (fun e => l.length - (intOf e).toNat)
            case atStart => exact ⟨p, by omega, by omega, rfl, fun j h1 h2 => by omega⟩
            case round =>
              obtain ⟨q, hq1, hq2, rfl, hgood⟩ := hrel
              by_cases hin : q < l.length ∧ inRun (l.getD q 0) = true
              · obtain ⟨hql, hqr⟩ := hin
                have hcq : w2.cell? ⟨b, off + q, none⟩ = some (.int .u8 (l.getD q 0)) := by
                  rw [HBW2.out.cell (p := ⟨b, off + q, none⟩) hlb]; exact HC.out q hql
                obtain ⟨hx1, hx2⟩ := HB.out q hql
                have HQR := Lib.hid hqr
                rw [inRun_kind] at hqr
                have hqk : 0 < kindV (l.getD q 0) := of_decide_eq_true hqr
                have hqb := kind_bd (l.getD q 0)
                have HKV := Lib.hid (fun w => kind_any (l.getD q 0) w hx1 hx2)
                clear hqr
                generalize hx : l.getD q 0 = x at *
                have HX := Lib.hid hx
                clear hx
                generalize kindV x = y at *
                go_wp2_with (go_at_call 21; refine (HKV.out _).mono ?_; rintro e w' ⟨rfl, rfl⟩)
                go_round
                case rel =>
                  refine ⟨q + 1, by omega, by omega, by go_num, fun j h1 h2 => ?_⟩
                  by_cases e : j < q
                  · exact hgood.out j h1 e
                  · obtain rfl : j = q := by omega
                    rw [HX.out]; exact HQR.out
                case measure => simp [intOf]; omega
              · have hstop : runV (l.drop p) = (l.drop p).take (q - p) := by
                  refine runV_stop (by simp; omega) (fun j hj => ?_) (fun hl => ?_)
                  · rw [getD_drop]; exact hgood.out (p + j) (by omega) (by omega)
                  · rw [getD_drop, show p + (q - p) = q by omega]
                    simp at hl
                    have : ¬ inRun (l.getD q 0) = true := fun h => hin ⟨by omega, h⟩
                    simpa using this
                have hpq : p < q := by
                  by_cases e : p < q
                  · exact e
                  · obtain rfl : p = q := by omega
                    exact absurd ⟨hlt, by rw [HCC.out]; exact HIN.out⟩ hin
                have hin' : q < l.length → inRun (l.getD q 0) = false := fun h => by
                  have : ¬ inRun (l.getD q 0) = true := fun h' => hin ⟨h, h'⟩
                  simpa using this
                clear hin
                have hsl2 : Sl .u8 w2 (some ⟨b, off + p, none⟩) (cap - p) (l.drop p) := ((HS.out.from rfl hlb HC.out p hlt).below HBW2.out)
                have hv := conv_take hsl2 (q - p) (by simp; omega) (drop_ne hlt)
                rw [← hstop] at hv
                have hz : (strOfNums (runV (l.drop p))).size = q - p := by rw [strOfNums_size, hstop]; simp; omega
                have hlen' : (runV (l.drop p)).length = q - p := by rw [← strOfNums_size, hz]
                have HPY := Lib.hid (fun (t : Tok) (h1 : runTk (strOfNums (runV (l.drop p))) = (t, 0)) => piece_run HP4.out h1)
                have HPN := Lib.hid (fun (c : Int) (h1 : (runTk (strOfNums (runV (l.drop p)))).2 = c) (h2 : c ≠ 0) => piece_norun HP4.out h1 h2)
                have HCS := Lib.hid (runTk_cases (strOfNums (runV (l.drop p))))
                rw [hlen'] at HPY
                clear hstop hlen' hsl2
                have HRR := Lib.hid (fun (w : World) => refRun_any (strOfNums (runV (l.drop p))) p w (by omega) (by omega) (by omega) (by omega))
                unfold RunPost tokV at HRR
                generalize strOfNums (runV (l.drop p)) = s at *
                have hqp : 0 < q - p := by omega
                have hpc : p ≤ cap := by omega
                have hqc : q ≤ cap := by omega
                have hpc' : p < cap := by omega
                by_cases hql : q < l.length
                · have hcq : w2.cell? ⟨b, off + q, none⟩ = some (.int .u8 (l.getD q 0)) := by
                    rw [HBW2.out.cell (p := ⟨b, off + q, none⟩) hlb]; exact HC.out q hql
                  obtain ⟨hx1, hx2⟩ := HB.out q hql
                  have hqr := hin' hql
                  rw [inRun_kind] at hqr
                  have hqk : ¬ 0 < kindV (l.getD q 0) := of_decide_eq_false hqr
                  have hqk2 : kindV (l.getD q 0) = 0 := by have := kind_bd (l.getD q 0); omega
                  have HKV := Lib.hid (fun w => kind_any (l.getD q 0) w hx1 hx2)
                  rw [hqk2] at HKV
                  clear hqr hqk hqk2 hin'
                  generalize l.getD q 0 = x at *
                  go_wp2_with (go_at_call 21; refine (HKV.out _).mono ?_; rintro e w' ⟨rfl, rfl⟩)
                  refine (HRR.out _).mono ?_
                  rintro e w3 ⟨⟨t, cc, rfl, hcc, ht⟩, hb3⟩
                  have hown3 := owns_below hown2 hb3
                  have hbel3 := hbel2.trans (hb3.mono hbel2.size)
                  have hbw3 := HBW2.out.trans (hb3.mono HBW2.out.size)
                  have hsz3 := hbw3.size
                  clear hown2 hbel2 hb3
                  by_cases hc0' : cc = 0
                  · subst hc0'
                    have hk' : ((runTk s).1).kind ≠ 0 := by
                      rcases HCS.out with ⟨_, h⟩ | ⟨_, h⟩ <;> omega
                    have hM := hm.out.out.tok hlt (HPY.out (runTk s).1 (by rw [hcc])) hk'
                    rw [← ht rfl, show p + (q - p) = q by omega] at hM
                    have HM2 := Lib.hid (RMet.mk hM)
                    obtain ⟨tk, tt, tn, ta⟩ := t
                    clear hM hk' ht hcc
                    go_wp2_with (at_builtin; refine wpList_append_own _ rfl (.tmp 105) (.tmp 107) 24 rfl wo.heap.size 37 i0 _ 4 40 Tryd.underlying24 hi hz0 hz1 hz2 rfl (by decide) _ _ _ rfl ((hown3.alloc _).alloc _) ⟨w3.heap.size + 1, 0, none⟩ 1 1 (Tok.cs ⟨tk, tt, tn, ta⟩) rfl rfl ?c1 ?c2 ?c3 ?c4 ?c5 ?_)
                    case c1 => exact cells_new4 (w3.alloc _) _ (by simp) ⟨tk, tt, tn, ta⟩ _
                    case c2 => exact one_cs _
                    case c3 => unfold maxLen; omega
                    case c4 => omega
                    case c5 => exact Nat.le_trans hbel3.size (by simp; omega)
                    intro v' w4 hown4 hgrow4 hnil4
                    have hbel4 : Below wo.heap.size wo w4 := ((hbel3.alloc hbel3.size _).alloc (Nat.le_trans hbel3.size (by simp)) _).grown hgrow4 (Nat.le_trans hbel3.size (by simp; omega)) (fun k hk => (hown3.lt k hk).1)
                    have hown4' := owns_more hown4
                    clear hown3 hgrow4 hbel3 hnil4 hown4
                    go_wp2_with fail
                    go_roundw
                    case rel => exact ⟨q, n + 1, acc ++ [(⟨tk, tt, tn, ta⟩ : Tok)], false, HM2.out, by omega, by omega, rfl, rfl, hown4', hbel4⟩
                    case measure => simp [intOf]; omega
                  · have hF := hm.out.out.bad hlt (HPN.out cc hcc.symm hc0') hc0'
                    rw [show (p : Int) + 0 = p by omega] at hF
                    have HF := Lib.hid hF
                    have hcc' : (cc != 0) = true := by simp [hc0']
                    clear hF ht hcc hc0'
                    go_wp2_with fail
                    go_ret3
                    exact refToks_bad HF.out (hbw3.alloc hsz3 _)
                · clear hin'
                  go_wp2_with fail
                  refine (HRR.out _).mono ?_
                  rintro e w3 ⟨⟨t, cc, rfl, hcc, ht⟩, hb3⟩
                  have hown3 := owns_below hown2 hb3
                  have hbel3 := hbel2.trans (hb3.mono hbel2.size)
                  have hbw3 := HBW2.out.trans (hb3.mono HBW2.out.size)
                  have hsz3 := hbw3.size
                  clear hown2 hbel2 hb3
                  by_cases hc0' : cc = 0
                  · subst hc0'
                    have hk' : ((runTk s).1).kind ≠ 0 := by
                      rcases HCS.out with ⟨_, h⟩ | ⟨_, h⟩ <;> omega
                    have hM := hm.out.out.tok hlt (HPY.out (runTk s).1 (by rw [hcc])) hk'
                    rw [← ht rfl, show p + (q - p) = q by omega] at hM
                    have HM2 := Lib.hid (RMet.mk hM)
                    obtain ⟨tk, tt, tn, ta⟩ := t
                    clear hM hk' ht hcc
                    go_wp2_with (at_builtin; refine wpList_append_own _ rfl (.tmp 105) (.tmp 107) 24 rfl wo.heap.size 37 i0 _ 4 40 Tryd.underlying24 hi hz0 hz1 hz2 rfl (by decide) _ _ _ rfl ((hown3.alloc _).alloc _) ⟨w3.heap.size + 1, 0, none⟩ 1 1 (Tok.cs ⟨tk, tt, tn, ta⟩) rfl rfl ?c1 ?c2 ?c3 ?c4 ?c5 ?_)
                    case c1 => exact cells_new4 (w3.alloc _) _ (by simp) ⟨tk, tt, tn, ta⟩ _
                    case c2 => exact one_cs _
                    case c3 => unfold maxLen; omega
                    case c4 => omega
                    case c5 => exact Nat.le_trans hbel3.size (by simp; omega)
                    intro v' w4 hown4 hgrow4 hnil4
                    have hbel4 : Below wo.heap.size wo w4 := ((hbel3.alloc hbel3.size _).alloc (Nat.le_trans hbel3.size (by simp)) _).grown hgrow4 (Nat.le_trans hbel3.size (by simp; omega)) (fun k hk => (hown3.lt k hk).1)
                    have hown4' := owns_more hown4
                    clear hown3 hgrow4 hbel3 hnil4 hown4
                    go_wp2_with fail
                    go_roundw
                    case rel => exact ⟨q, n + 1, acc ++ [(⟨tk, tt, tn, ta⟩ : Tok)], false, HM2.out, by omega, by omega, rfl, rfl, hown4', hbel4⟩
                    case measure => simp [intOf]; omega
                  · have hF := hm.out.out.bad hlt (HPN.out cc hcc.symm hc0') hc0'
                    rw [show (p : Int) + 0 = p by omega] at hF
                    have HF := Lib.hid hF
                    have hcc' : (cc != 0) = true := by simp [hc0']
                    clear hF ht hcc hc0'
                    go_wp2_with fail
                    go_ret3
                    exact refToks_bad HF.out (hbw3.alloc hsz3 _)
          · have hs03 : sortV (l.getD p 0) = 0 ∨ sortV (l.getD p 0) = 3 := by omega
            have hkz : kindV (l.getD p 0) = 0 := by
              have := kind_of_sort (l.getD p 0)
              repeat' split at this
              all_goals omega
            have HKV := Lib.hid (fun w => kind_any (l.getD p 0) w hb1 hb2)
            rw [hkz] at HKV
            have hbm := (HB.out.drop p).mem
            have HSY := Lib.hid (fun (fs : ByteArray) hfs hne => sign_yes (acc := acc) hm.out.out hlt hbm (fs := fs) hfs hne)
            have HSN := Lib.hid (fun hn => sign_no (acc := acc) hm.out.out hlt hbm HD.out hs03 hn)
            clear hten hone hone1 hs1 hs2 hs4 hH hsb HH hs03 hkz hbm
            generalize l.getD p 0 = c at *
            go_wp2_with fail
            refine (HAT.out _ (HS.out.below HBW.out)).mono ?_
            rintro e w2 ⟨rfl, hb2⟩
            have hbw2 := HBW.out.trans (hb2.mono HBW.out.size)
            have hc0 := hcw _ hbw2
            have hbs : b < w2.heap.size := Nat.lt_of_lt_of_le hlb hbw2.size
            have hown2 := owns_below hown hb2
            have hbel2 := hbel.trans (hb2.mono hbel.size)
            have hsz2 := hbw2.size
            have HBW2 := Lib.hid hbw2
            clear hown hbel hb2 hcw hbw2
            go_wp2_with fail
            go_loop [13] (fun e => e = .int .i64 p) (fun e => 0)
            case atStart => rfl
            case round =>
              subst hrel
              go_wp2_with (go_at_call 21; refine (HKV.out _).mono ?_; rintro e w' ⟨rfl, rfl⟩)
              have HSG := Lib.hid (HG.out.below hbel2)
              have HSL := Lib.hid ((HS.out.from rfl hlb HC.out p hlt).below HBW2.out)
              obtain ⟨wx, hwx⟩ : ∃ wx : World, wx = w2 := ⟨_, rfl⟩
              go_loopw [16, 17, 18] (fun f i k w1 => ∃ (j n3 : Nat) (fs : ByteArray), j ≤ 25 ∧ i = .int .i64 j ∧ w1 = w2.drewN n3 ∧ f = .string fs ∧ Hid ((fs.toList = [] ∧ ∀ m (hm : m < signL.length), m < j → hit (l.drop p) signL[m] = false) ∨ (fs = ⟨(sgn (l.drop p)).toArray⟩ ∧ sgn (l.drop p) ≠ []))) (fun _ i _ _ => 25 - (intOf i).toNat)
              case atStart => exact ⟨0, 0, ⟨#[]⟩, by omega, rfl, rfl, rfl, .inl ⟨by rw [ByteArray.toList_eq], fun m hm h => by omega⟩⟩
              case round =>
                obtain ⟨j, n3, fs, hj, rfl, rfl, rfl, hcase⟩ := hrel
                rcases hcase.out with ⟨hfe, hno⟩ | ⟨hfs, hne⟩
                · have hfe' : (fs.toList == []) = true := by rw [hfe]; rfl
                  have HNO := Lib.hid hno
                  clear hfe hno hcase
                  by_cases hj25 : j < 25
                  · have hjl : j < signL.length := hj25
                    obtain ⟨bs, offs, rfl, hlbs, hcs⟩ := HSG.out.at_ (k := j) hjl
                    obtain ⟨sj, hsj⟩ : ∃ sj : ByteArray, sj = ⟨(signL[j]).toArray⟩ := ⟨_, rfl⟩
                    unfold strV at hcs
                    rw [← hsj] at hcs
                    have hsl : sj.toList = signL[j] := by rw [hsj, ByteArray.toList_mk]
                    have hszj : sj.size = (signL[j]).length := by rw [← data_len, hsl]
                    have hsz12 := signL_size _ (List.getElem_mem hjl)
                    rw [← hszj] at hsz12
                    obtain ⟨hsz1', hsz2'⟩ := hsz12
                    have HSJ := Lib.hid hsj
                    have HSLJ := Lib.hid hsl
                    have hhit : hit (l.drop p) signL[j] = (decide (sj.size ≤ (l.drop p).length) && ((strOfNums ((l.drop p).take sj.size)).toList == sj.toList)) := by
                      unfold hit; rw [← hszj, hsl]
                    have hv' : sj.size ≤ (l.drop p).length → ∀ n, (convert 22 9 (.slice (some ⟨b, off + p, none⟩) sj.size (cap - p))).run Tryd.prog (w2.drewN n) = .ok (.string (strOfNums ((l.drop p).take sj.size))) (w2.drewN n) := fun h n =>
                      conv_take (HSL.out.below (below_dN (Below.refl _ _) n)) sj.size h (drop_ne hlt)
                    rw [List.length_drop] at hhit hv'
                    clear hsj hsl hszj
                    have hpc : p ≤ cap := by omega
                    have hpc' : p < cap := by omega
                    generalize strOfNums ((l.drop p).take sj.size) = s2 at *
                    have hz1 : 0 ≤ (p : Int) + sj.size := by omega
                    have hz2 : ((p : Int) + sj.size).toNat = p + sj.size := by omega
                    have hz3 : IntKind.i64.wrap ((p : Int) + sj.size) = (p : Int) + sj.size := IntWalk.i64_in _ (by omega)
                    by_cases hft : p + sj.size ≤ l.length
                    · rw [decide_eq_true (by omega), Bool.true_and] at hhit
                      have hv := hv' (by omega)
                      have hft' : (p : Int) + sj.size ≤ l.length := by omega
                      have hfc : p + sj.size ≤ cap := by omega
                      have hfc' : (p : Int) + sj.size ≤ cap := by omega
                      have hzp : (p : Int) ≤ (p : Int) + sj.size := by omega
                      clear hv'
                      by_cases ht : (s2.toList == sj.toList) = true
                      · rw [ht] at hhit
                        have HH := Lib.hid (sign_hit hjl HNO.out hhit)
                        clear hhit
                        go_wp2_with fail
                        go_quiet (fail)
                        go_wp2_with fail
                        go_roundw
                        case rel => exact ⟨j + 1, _, sj, by omega, by go_num, rfl, rfl, .inr ⟨by rw [HSJ.out, HH.out.1], HH.out.2⟩⟩
                        case measure => simp [intOf]; omega
                      · have ht' : (s2.toList == sj.toList) = false := by simpa using ht
                        rw [ht'] at hhit
                        have HH := Lib.hid (hit_more hjl HNO.out hhit)
                        clear hhit ht
                        go_wp2_with fail
                        go_quiet (fail)
                        go_wp2_with fail
                        go_roundw
                        case rel => exact ⟨j + 1, _, fs, by omega, by go_num, rfl, rfl, .inl ⟨by simpa using hfe', HH.out⟩⟩
                        case measure => simp [intOf]; omega
                    · rw [decide_eq_false (by omega), Bool.false_and] at hhit
                      have HH := Lib.hid (hit_more hjl HNO.out hhit)
                      have hft' : ¬ (p : Int) + sj.size ≤ l.length := by omega
                      have hfd : decide ((p : Int) + sj.size ≤ l.length) = false := decide_eq_false hft'
                      clear hhit hv' hft'
                      go_wp2_with fail
                      go_quiet (fail)
                      go_wp2_with fail
                      go_roundw
                      case rel => exact ⟨j + 1, _, fs, by omega, by go_num, rfl, rfl, .inl ⟨by simpa using hfe', HH.out⟩⟩
                      case measure => simp [intOf]; omega
                  · have HF := Lib.hid (HSN.out (fun m hm => HNO.out m hm (by have := signL_len; omega)))
                    go_wp2_with fail
                    go_ret3
                    exact refToks_bad HF.out (below_dN HBW2.out _)
                · clear hcase
                  obtain ⟨hfe, hfp, hfl, hM⟩ := HSY.out fs hfs hne
                  have HM2 := Lib.hid (RMet.mk hM)
                  have hbel3 : Below wo.heap.size wo (w2.drewN n3) := below_dN hbel2 n3
                  have hown3 : (w2.drewN n3).ownsRow wo.heap.size 37 4 u5 n (tokCells acc) := hown2
                  clear hfs hne hM hown2 hbel2
                  by_cases hj25 : j < 25
                  all_goals
                    go_wp2_with (at_builtin; refine wpList_append_own _ rfl (.tmp 152) (.tmp 156) 24 rfl wo.heap.size 37 i0 _ 4 40 Tryd.underlying24 hi hz0 hz1 hz2 rfl (by decide) _ _ _ rfl (hown3.alloc _) ⟨w2.heap.size, 0, none⟩ 1 1 (Tok.cs ⟨3, fs, 0, p⟩) rfl rfl ?c1 ?c2 ?c3 ?c4 ?c5 ?_)
                    case c1 => intro j u hj; have := cells_new4 (w2.drewN n3) w2.heap.size rfl (⟨3, fs, 0, p⟩ : Tok) 37 j u hj; first | exact this | (rw [plain_at, Nat.zero_add] at this; exact this)
                    case c2 => exact one_cs _
                    case c3 => unfold maxLen; omega
                    case c4 => omega
                    case c5 => exact Nat.le_trans hbel3.size (by simp)
                    intro v' w4 hown4 hgrow4 hnil4
                    have hbel4 : Below wo.heap.size wo w4 := (hbel3.alloc hbel3.size _).grown hgrow4 (Nat.le_trans hbel3.size (by simp)) (fun k hk => (hown3.lt k hk).1)
                    have hown4' := owns_more hown4
                    clear hown3 hgrow4 hbel3 hnil4 hown4
                    go_wp2_with fail
                    go_roundw
                    case rel => exact ⟨p + fs.size, n + 1, acc ++ [(⟨3, fs, 0, (p : Int)⟩ : Tok)], false, HM2.out, by omega, by omega, by go_num, rfl, hown4', hbel4⟩
                    case measure => simp [intOf]; omega
      · have hd' : ∀ r, ¬ Dec l p r := fun r hr => hd ⟨r, hr⟩
        have HAT := Lib.hid (fun w1 h1 => at_no (some ⟨b, off, none⟩) cap l p w1 h1 HB.out hL hlt hd')
        have hF : toksV l = ([], (p : Int), 3) := by
          cases rem with
          | true => exact hm.out.wrong hlt hd'
          | false =>
            have hs : sortV (l.getD p 0) = 0 := by
              by_cases hs : sortV (l.getD p 0) = 0
              · exact hs
              · have := sort_ascii hs
                exact absurd (dec_ascii hlt this.1 this.2) (hd' _)
            have := hm.out.out.bad hlt (piece_utf (by rw [hH]; exact hs) (by rw [decN_zero]; exact (dec_none hd').2)) (by decide)
            simpa using this
        have HF := Lib.hid hF
        clear hF hd hd' hH
        generalize l.getD p 0 = c at *
        go_wp2_with fail
        refine (HAT.out _ (HS.out.below HBW.out)).mono ?_
        rintro e w2 ⟨rfl, hb2⟩
        have hbw2 := HBW.out.trans (hb2.mono HBW.out.size)
        have hc0 := hcw _ hbw2
        have hbs : b < w2.heap.size := Nat.lt_of_lt_of_le hlb hbw2.size
        clear hcw
        go_wp2_with fail
        go_ret3
        exact refToks_bad HF.out hbw2
    · have HF := Lib.hid (hm.out.fin hlt)
      go_wp2_with (at_builtin; refine wpList_append_own _ rfl (.tmp 162) (.tmp 166) 24 rfl wo.heap.size 37 i0 _ 4 40 Tryd.underlying24 hi hz0 hz1 hz2 rfl (by decide) _ _ _ rfl (hown.alloc _) ⟨wr.heap.size, 0, none⟩ 1 1 (Tok.cs ⟨4, ⟨#[]⟩, 0, l.length⟩) rfl rfl ?d1 ?d2 ?d3 ?d4 ?d5 ?_)
      case d1 => exact cells_new4 wr _ rfl ⟨4, ⟨#[]⟩, 0, l.length⟩ _
      case d2 => exact one_cs _
      case d3 => unfold maxLen; omega
      case d4 => omega
      case d5 => exact Nat.le_trans hbel.size (by simp)
      intro v' w3 hown3 hgrow3 hnil3
      have hbel3 : Below w.heap.size w w3 := (HBW.out.alloc hsz _).grown hgrow3 (by simp; omega) (fun k hk => Nat.le_trans HO.out.size (hown.lt k hk).1)
      have hown3' := owns_more hown3
      clear hown hgrow3 hbel hnil3 hown3
      go_wp2_with fail
      go_ret3
      exact refToks_good HF.out hbel3 hown3'
end Go.Proofs.YtipfbppkahfnmaaDoor
