/- KindsForms: the law's walk. -/
import Derived.Test.YtjajnlmnkefhbaaKxL
import Derived.Test.YtjajnlmnkefhbaaLawB
import Derived.Deep.RegionWith
import Derived.Deep.RegionHeld3
namespace Go.Proofs.Ytjajnlmnkefhbaa
open Go.RowKit LM
set_option linter.unusedVariables false

set_option maxRecDepth 100000 in
set_option maxHeartbeats 40000000 in
theorem law_forms (h : Hd) (k : Fo) (q : Option Addr) (cap : Nat) (w : World) (ht : TyIs w h k q cap) :
    Calls Try.prog 3 #[.agg #[.int .u8 h.op, .string h.name, .int .i64 h.n, .slice q k.len cap]] w fun e w' => e = .returned (.bool true) ∧ Below w.heap.size w w' := by
  obtain ⟨hh, hk, hsl, hsz⟩ := ht
  obtain ⟨Tc, hTc⟩ : ∃ Tc, Tc = if riB h k = true then canT h k else zT := ⟨_, rfl⟩
  obtain ⟨Tn, hTn⟩ : ∃ Tn, Tn = if riB h k = true then numG (varsT (canT h k)) (canT h k).1 (canT h k).2 else zT := ⟨_, rfl⟩
  obtain ⟨l, hl⟩ : ∃ l, l = if riB h k = true then varsT (canT h k) else [] := ⟨_, rfl⟩
  have zpost : ∀ (w' : World) e w'', e = Ending.returned (.agg #[.int .u8 0, .string ⟨#[]⟩, .int .i64 0, .slice none 0 0]) ∧ Below w'.heap.size w' w'' → CopPost w' zT.1 zT.2 e w'' := fun w' e w'' ⟨h1, h2⟩ => ⟨none, 0, [], h1, Nat.le_refl _, Nat.zero_le _, .inl ⟨rfl, rfl⟩, List.nodup_nil, (fun c hc => by cases hc), h2⟩
  have HC : Hid (∀ w', Below w.heap.size w w' → Calls Try.prog 11 #[.agg #[.int .u8 h.op, .string h.name, .int .i64 h.n, .slice q k.len cap]] w' (CopPost w' Tc.1 Tc.2)) := Lib.hid fun w' hb => by
    rw [hTc]
    by_cases hr : riB h k = true
    · rw [if_pos hr]; exact Canon_own h k q cap w' hh (hsl.below hb) hk hsz hr
    · rw [if_neg hr]; exact (Canon_no h k q cap w' hh (hsl.below hb) hk hsz (by simpa using hr)).mono (zpost w')
  have HN : Hid (∀ w', Below w.heap.size w w' → Calls Try.prog 12 #[.agg #[.int .u8 h.op, .string h.name, .int .i64 h.n, .slice q k.len cap]] w' (CopPost w' Tn.1 Tn.2)) := Lib.hid fun w' hb => by
    rw [hTn]
    by_cases hr : riB h k = true
    · rw [if_pos hr]
      exact Number_yes h k q cap w' hh (hsl.below hb) hk hsz hr
    · rw [if_neg hr]; exact (Number_no h k q cap w' hh (hsl.below hb) hk hsz (by simpa using hr)).mono (zpost w')
  have HV : Hid (∀ w', Below w.heap.size w w' → Calls Try.prog 13 #[.agg #[.int .u8 h.op, .string h.name, .int .i64 h.n, .slice q k.len cap]] w' (NsPost w' l)) := Lib.hid fun w' hb => by
    rw [hl]
    by_cases hr : riB h k = true
    · rw [if_pos hr]
      refine (Vars_yes h k q cap w' hh (hsl.below hb) hk hsz hr).mono ?_
      rintro e w'' ⟨v, h1, h2, h3⟩
      obtain ⟨a, c, rfl, _⟩ := own_is h2
      refine ⟨a, c, h1, fun W hW => ?_, h3⟩
      obtain ⟨a', c', e', h4⟩ := own_is (own_agree h2 hW)
      cases e'
      exact h4
    · rw [if_neg hr]
      refine (Vars_no h k q cap w' hh (hsl.below hb) hk hsz (by simpa using hr)).mono ?_
      rintro e w'' ⟨h1, h3⟩
      exact ⟨none, 0, h1, fun W _ => ⟨Nat.le_refl _, Nat.zero_le _, fun h => absurd h (Nat.lt_irrefl _)⟩, h3⟩
  have HM := Lib.hid fun w' (hb : Below w.heap.size w w') => many_any h k q cap w' hsz (hsl.below hb)
  have HAL := Lib.hid kalive_any
  have HX0 := Lib.hid (World.alloc_heap_new w (.cells #[.int .u8 h.op, .string h.name, .int .i64 h.n, .slice q k.len cap] 25))
  have HTY : Hid (TyIs w h k q cap) := Lib.hid ⟨hh, hk, hsl, hsz⟩
  have HTc := Lib.hid hTc
  have HTn := Lib.hid hTn
  have HLd := Lib.hid hl
  clear hh hk hsl hsz hTc hTn hl zpost
  generalize hNd : decide (400 < 1 + k.size) = n1 at *
  clear hNd
  generalize hLk : k.len = Lk at *
  have HLK := Lib.hid hLk
  clear hLk
  go_enter Try.func3, Try.ntmps3
  go_wp2_with fail
  refine (HAL.out _).mono ?_
  rintro e w1 ⟨rfl, hb1⟩
  have hx1 := (hb1.block _ (by simp)).trans HX0.out
  obtain ⟨x0, x1, x2, x3, _⟩ := row4 hx1
  have HB1 := Lib.hid (below_then (below_box _ _) hb1)
  have HX1 := Lib.hid hx1
  clear hb1 hx1
  go_wp2_with fail
  refine (HM.out _ HB1.out).mono ?_
  rintro e w2 ⟨rfl, hb2⟩
  have hx2 := (hb2.block _ (Array.getElem?_eq_some_iff.1 HX1.out).1).trans HX1.out
  have HB2 := Lib.hid (below_then HB1.out hb2)
  have HX2 := Lib.hid hx2
  clear hb2 x0 x1 x2 x3
  obtain ⟨x0, x1, x2, x3, _⟩ := row4 hx2
  clear hx2
  cases n1
  case true =>
    go_wp2
    go_ret
    exact ⟨rfl, HB2.out⟩
  case false =>
    go_wp2
    have hJ : ∀ w', Below w2.heap.size w2 w' → Below w2.heap.size w2 w' ∧ w'.cell? ⟨w.heap.size, 0, none⟩ = some (.int .u8 h.op) ∧ w'.cell? ⟨w.heap.size, 1, none⟩ = some (.string h.name) ∧ w'.cell? ⟨w.heap.size, 2, none⟩ = some (.int .i64 h.n) ∧ w'.cell? ⟨w.heap.size, 3, none⟩ = some (.slice q Lk cap) := fun w' hb => by
      obtain ⟨z0, z1, z2, z3, _⟩ := row4 ((hb.block w.heap.size (Array.getElem?_eq_some_iff.1 HX2.out).1).trans HX2.out)
      exact ⟨hb, z0, z1, z2, z3⟩
    have HJ := Lib.hid hJ
    have G1 := Lib.hid fun w' (hb : Below w2.heap.size w2 w') => (HC.out w' (below_then HB2.out hb))
    have G2 := Lib.hid fun w' (hb : Below w2.heap.size w2 w') => (HN.out w' (below_then HB2.out hb))
    have G3 := Lib.hid fun w' (hb : Below w2.heap.size w2 w') => (HV.out w' (below_then HB2.out hb))
    clear hJ x0 x1 x2 x3 HC HN HV
    refine Code.wp_mono (Q := FmMid w h Lk q cap Tc Tn l) ?_ ?_
    · rintro e a W ⟨rfl, q3, c3, q4, c4, av, cv, B3, B4, u0, u7, u8, u9, u10, u11, u12, u13, u14, u15, u16, rfl, hM⟩
      have HM0 := Lib.hid hM
      obtain ⟨x0, x1, x2, x3, y0, y1, y2, y3, z0, z1, z2, z3⟩ := hM.cells
      have hty := HTY.out
      obtain ⟨hh, hk, hsl, hsz⟩ := hty
      have HRt := Lib.hid fun w' (hb : Below w.heap.size w w') => refRight_any h k q cap w' hh hk hsz (hsl.below hb)
      have HRw := Lib.hid fun w' (hb : Below w.heap.size w w') => refRow_any h k q cap w' hh hk hsz (hsl.below hb)
      have HCl := Lib.hid fun w' (hb : Below w.heap.size w w') => Closed_any h k q cap w' hh (hsl.below hb) hk hsz
      have HSt := Lib.hid fun w' (hb : Below w.heap.size w w') => Static_any h k q cap w' hh (hsl.below hb) hk hsz
      rw [HLK.out] at HRt HRw HCl HSt
      by_cases hr : riB h k = true
      · skip
        have hr' : rightB h k 1 = true ∨ rightB h k 2 = true := by unfold riB at hr; simpa using hr
        obtain ⟨s, hsh, h12⟩ : ∃ s, sh1 h k s = true ∧ (s = 1 ∨ s = 2) := hr'.elim (fun h => ⟨1, sh1_right h, .inl rfl⟩) (fun h => ⟨2, sh1_right h, .inr rfl⟩)
        have hTc : Tc = canT h k := by rw [HTc.out, if_pos hr]
        have hTn : Tn = numG (varsT (canT h k)) (canT h k).1 (canT h k).2 := by rw [HTn.out, if_pos hr]
        have hl : l = varsT (canT h k) := by rw [HLd.out, if_pos hr]
        have hcl := closed_vars hsh h12
        rw [← hl] at hcl
        have HVr : Hid (∀ w', Below w.heap.size w w' → Calls Try.prog 20 #[.agg #[.int .u8 h.op, .string h.name, .int .i64 h.n, .slice q Lk cap]] w' fun e w'' => ∃ a2 c2, e = .returned (.slice a2 l.length c2) ∧ IsAt w'' a2 c2 l ∧ Below w'.heap.size w' w'') := Lib.hid fun w' hb => by
          rw [hl, ← HLK.out]
          refine (refVars_any h k q cap w' s hsh h12 hsz (hsl.below hb)).mono ?_
          rintro e w'' ⟨v, h1, h2, h3⟩
          obtain ⟨a2, c2, rfl, h4⟩ := own_is h2
          exact ⟨a2, c2, h1, h4, h3⟩
        have HCr : Hid (∀ w', Below w.heap.size w w' → Calls Try.prog 21 #[.agg #[.int .u8 h.op, .string h.name, .int .i64 h.n, .slice q Lk cap]] w' (CnPost w' Tc)) := Lib.hid fun w' hb => by
          rw [hTc, ← HLK.out]; exact refCanon_any (k.size + 1) h k q cap w' s (by omega) hsz hsh h12 (hsl.below hb)
        have HNr : Hid (∀ w', Below w.heap.size w w' → Calls Try.prog 22 #[.agg #[.int .u8 h.op, .string h.name, .int .i64 h.n, .slice q Lk cap]] w' (CnPost w' Tn)) := Lib.hid fun w' hb => by
          rw [hTn, ← HLK.out]; exact refNumber_any h k q cap w' s hh hk hsh h12 hsz (hsl.below hb)
        have HSr := Lib.hid fun w' (hb : Below w.heap.size w w') => refStatic_any h k q cap w' hsz (hsl.below hb)
        rw [HLK.out] at HSr
        have hlm : l.length ≤ 1099511627776 := by
          have h1 : (varsT (canT h k)).length ≤ 1 + (canT h k).2.size := by unfold varsT; rw [← length_one (canT h k).1]; exact varsL_len _
          have := canT_size h k
          rw [hl]; omega
        have HSI := Lib.hid fun a1 c1 a2 c2 w' (i1 : IsAt w' a1 c1 l) (i2 : IsAt w' a2 c2 l) => SameInts_any l l a1 a2 c1 c2 w' i1 i2 hlm hlm
        have oc : Tc.1.ok ∧ Tc.2.ok := by rw [hTc]; exact canT_ok hh hk
        have on : Tn.1.ok ∧ Tn.2.ok := by rw [hTn]; exact num_ok (canT_ok hh hk) (by rw [← hl]; exact hlm)
        have HA1 : Hid (∀ qa ca qb cb w', SlF w' qa ca Tc.2 → SlF w' qb cb Tc.2 → Calls Try.prog 16 #[.agg #[.int .u8 Tc.1.op, .string Tc.1.name, .int .i64 Tc.1.n, .slice qa Tc.2.len ca], .agg #[.int .u8 Tc.1.op, .string Tc.1.name, .int .i64 Tc.1.n, .slice qb Tc.2.len cb]] w' fun e w'' => e = .returned (.bool true) ∧ Below w'.heap.size w' w'') := Lib.hid fun qa ca qb cb w' s1 s2 => by
          have := Alike_any (Tc.2.size + 1) Tc.1 Tc.1 Tc.2 Tc.2 qa qb ca cb w' (by omega) oc.1 oc.1 oc.2 oc.2 s1 s2
          rw [alk_self] at this
          exact this
        have HA2 : Hid (∀ qa ca qb cb w', SlF w' qa ca Tn.2 → SlF w' qb cb Tn.2 → Calls Try.prog 16 #[.agg #[.int .u8 Tn.1.op, .string Tn.1.name, .int .i64 Tn.1.n, .slice qa Tn.2.len ca], .agg #[.int .u8 Tn.1.op, .string Tn.1.name, .int .i64 Tn.1.n, .slice qb Tn.2.len cb]] w' fun e w'' => e = .returned (.bool true) ∧ Below w'.heap.size w' w'') := Lib.hid fun qa ca qb cb w' s1 s2 => by
          have := Alike_any (Tn.2.size + 1) Tn.1 Tn.1 Tn.2 Tn.2 qa qb ca cb w' (by omega) on.1 on.1 on.2 on.2 s1 s2
          rw [alk_self] at this
          exact this
        have hrr : (rightB h k 1 || rightB h k 2) = true := hr
        rw [hrr] at HCl HSt
        simp only [Bool.true_and] at HCl HSt
        rw [hcl] at HCl
        have hcase : rightB h k 1 = true ∨ (rightB h k 1 = false ∧ rightB h k 2 = true) := by
          cases h1 : rightB h k 1
          · right; rw [h1] at hr'; exact ⟨rfl, by simpa using hr'⟩
          · left; rfl
        generalize rightB h k 1 = r1 at *
        generalize rightB h k 2 = r2 at *
        generalize (!hasB 3 9 (flatL [(h, k)])) = st at *
        have hle : decide (l.length = 0) = ((l.length : Int) == 0) := by rw [Bool.eq_iff_iff]; simp
        rw [hle] at HCl
        have hmain : ∀ Wb : World, FmB w h Lk q cap Tc Tn l q3 c3 q4 c4 av cv B3 B4 Wb → True := fun _ _ => trivial
        clear hmain hM hh hk hsl hsz hr hr' hsh h12 hTc hTn hl hcl hlm oc on hrr hle HTc HTn HLd
        have region : ∀ (W8 : World) (a2 : Option Addr) (c2 : Nat), FmB w h Lk q cap Tc Tn l q3 c3 q4 c4 av cv B3 B4 W8 → IsAt W8 a2 c2 l → True := fun _ _ _ _ _ => trivial
        clear region
        generalize hLN : l.length = LN at *
        have HLN := Lib.hid hLN
        clear hLN x0 x1 x2 x3 y0 y1 y2 y3 z0 z1 z2 z3
        obtain ⟨x0, x1, x2, x3, y0, y1, y2, y3, z0, z1, z2, z3⟩ := HM0.out.cells
        obtain ⟨cl, hcl⟩ : ∃ cl, cl = ((LN : Int) == 0) := ⟨_, rfl⟩
        rw [← hcl] at HCl
        have hcz : (LN = 0 ∧ cl = true) ∨ (((LN : Int) == 0) = false ∧ cl = false) := by
          by_cases hz : LN = 0
          · left; exact ⟨hz, by rw [hcl, hz]; rfl⟩
          · right; have : ((LN : Int) == 0) = false := by simp; omega
            exact ⟨this, by rw [hcl, this]⟩
        clear hcl
        rcases hcase with t1 | ⟨t1, t2⟩
        · rw [t1] at HRt
          go_wp2_with fail
          refine (HRt.out _ HM0.out.below).mono ?_
          rintro e W1 ⟨rfl, hb⟩
          have HM1 := Lib.hid (HM0.out.go hb)
          clear hb x0 x1 x2 x3 y0 y1 y2 y3 z0 z1 z2 z3
          obtain ⟨x0, x1, x2, x3, y0, y1, y2, y3, z0, z1, z2, z3⟩ := HM1.out.cells
          go_wp2_with fail
          refine (HVr.out _ HM1.out.below).mono ?_
          rintro e W2 ⟨a2, c2, rfl, hi2, hb⟩
          have HM2 := Lib.hid (HM1.out.go hb)
          clear hb x0 x1 x2 x3 y0 y1 y2 y3 z0 z1 z2 z3
          obtain ⟨x0, x1, x2, x3, y0, y1, y2, y3, z0, z1, z2, z3⟩ := HM2.out.cells
          have HI2 := Lib.hid hi2
          clear hi2
          have hJ : ∀ w', Below W2.heap.size W2 w' → Below W2.heap.size W2 w' ∧ w'.cell? ⟨w.heap.size, 0, none⟩ = some (.int .u8 h.op) ∧ w'.cell? ⟨w.heap.size, 1, none⟩ = some (.string h.name) ∧ w'.cell? ⟨w.heap.size, 2, none⟩ = some (.int .i64 h.n) ∧ w'.cell? ⟨w.heap.size, 3, none⟩ = some (.slice q Lk cap) ∧ w'.cell? ⟨B3, 0, none⟩ = some (.int .u8 Tc.1.op) ∧ w'.cell? ⟨B3, 1, none⟩ = some (.string Tc.1.name) ∧ w'.cell? ⟨B3, 2, none⟩ = some (.int .i64 Tc.1.n) ∧ w'.cell? ⟨B3, 3, none⟩ = some (.slice q3 Tc.2.len c3) ∧ w'.cell? ⟨B4, 0, none⟩ = some (.int .u8 Tn.1.op) ∧ w'.cell? ⟨B4, 1, none⟩ = some (.string Tn.1.name) ∧ w'.cell? ⟨B4, 2, none⟩ = some (.int .i64 Tn.1.n) ∧ w'.cell? ⟨B4, 3, none⟩ = some (.slice q4 Tn.2.len c4) := fun w' hb => ⟨hb, (HM2.out.go hb).cells⟩
          have HJ := Lib.hid hJ
          have G1 := Lib.hid fun w' (hb : Below W2.heap.size W2 w') => (HCr.out w' (below_then HM2.out.below hb)).mono fun e w2 ⟨q', c', h1, h2, h3⟩ => (⟨q', c', h1, h2.here, below_then hb h3⟩ : ∃ q' c', e = Ending.returned (.agg #[.int .u8 Tc.1.op, .string Tc.1.name, .int .i64 Tc.1.n, .slice q' Tc.2.len c']) ∧ SlF w2 q' c' Tc.2 ∧ Below W2.heap.size W2 w2)
          have G2 := Lib.hid fun q' c' w' (hb : Below W2.heap.size W2 w') (hs : SlF w' q' c' Tc.2) => (HA1.out q3 c3 q' c' w' (HM2.out.go hb).sc hs).mono fun e w2 hh => And.intro hh.1 (below_then hb hh.2)
          have G3 := Lib.hid fun w' (hb : Below W2.heap.size W2 w') => (HNr.out w' (below_then HM2.out.below hb)).mono fun e w2 ⟨q', c', h1, h2, h3⟩ => (⟨q', c', h1, h2.here, below_then hb h3⟩ : ∃ q' c', e = Ending.returned (.agg #[.int .u8 Tn.1.op, .string Tn.1.name, .int .i64 Tn.1.n, .slice q' Tn.2.len c']) ∧ SlF w2 q' c' Tn.2 ∧ Below W2.heap.size W2 w2)
          have G4 := Lib.hid fun q' c' w' (hb : Below W2.heap.size W2 w') (hs : SlF w' q' c' Tn.2) => (HA2.out q4 c4 q' c' w' (HM2.out.go hb).sn hs).mono fun e w2 hh => And.intro hh.1 (below_then hb hh.2)
          have G5 : Hid (∀ w', Below W2.heap.size W2 w' → Calls Try.prog 23 #[.slice av LN cv, .slice a2 LN c2] w' fun e w2 => e = Ending.returned (.bool true) ∧ Below W2.heap.size W2 w2) := Lib.hid fun w' hb => by
            have := HSI.out av cv a2 c2 w' (HM2.out.go hb).iv (HI2.out.below hb)
            refine this.mono ?_
            rintro e w2 ⟨r, rfl, hr, hb2⟩
            have : r = true := (by first | exact hr.2 trivial | exact hr.2 rfl | simpa using hr)
            subst this
            exact ⟨rfl, below_then hb hb2⟩
          have G6 := Lib.hid fun w' (hb : Below W2.heap.size W2 w') => (HCl.out w' (below_then HM2.out.below hb)).mono fun e w2 hh => And.intro hh.1 (below_then hb hh.2)
          have G7 := Lib.hid fun w' (hb : Below W2.heap.size W2 w') => (HSt.out w' (below_then HM2.out.below hb)).mono fun e w2 hh => And.intro hh.1 (below_then hb hh.2)
          have G8 := Lib.hid fun w' (hb : Below W2.heap.size W2 w') => (HSr.out w' (below_then HM2.out.below hb)).mono fun e w2 hh => And.intro hh.1 (below_then hb hh.2)
          have HEND : Hid (∀ w', Below W2.heap.size W2 w' → Below w.heap.size w w') := Lib.hid fun w' hb => below_then HM2.out.below hb
          clear hJ x0 x1 x2 x3 y0 y1 y2 y3 z0 z1 z2 z3
          rcases hcz with ⟨hz, hcl⟩ | ⟨hz, hcl⟩
          all_goals
            subst hcl
            (try subst hz)
            go_wp2_with fail
            go_region_held3 (fun w' => Below W2.heap.size W2 w' ∧ w'.cell? ⟨w.heap.size, 0, none⟩ = some (.int .u8 h.op) ∧ w'.cell? ⟨w.heap.size, 1, none⟩ = some (.string h.name) ∧ w'.cell? ⟨w.heap.size, 2, none⟩ = some (.int .i64 h.n) ∧ w'.cell? ⟨w.heap.size, 3, none⟩ = some (.slice q Lk cap) ∧ w'.cell? ⟨B3, 0, none⟩ = some (.int .u8 Tc.1.op) ∧ w'.cell? ⟨B3, 1, none⟩ = some (.string Tc.1.name) ∧ w'.cell? ⟨B3, 2, none⟩ = some (.int .i64 Tc.1.n) ∧ w'.cell? ⟨B3, 3, none⟩ = some (.slice q3 Tc.2.len c3) ∧ w'.cell? ⟨B4, 0, none⟩ = some (.int .u8 Tn.1.op) ∧ w'.cell? ⟨B4, 1, none⟩ = some (.string Tn.1.name) ∧ w'.cell? ⟨B4, 2, none⟩ = some (.int .i64 Tn.1.n) ∧ w'.cell? ⟨B4, 3, none⟩ = some (.slice q4 Tn.2.len c4)) ((refine HJ.out _ ?_; (first | (with_reducible assumption) | (go_split_ands; with_reducible assumption) | (repeat' (first | (with_reducible assumption) | (with_reducible exact Below.refl _ _) | (with_reducible refine below_al ?_ _) | (with_reducible refine Below.drew ?_)))))) (first
              | (go_at_call 21; (with_reducible refine (G1.out _ ?_).mono ?_); (first | (with_reducible assumption) | (go_split_ands; with_reducible assumption) | (repeat' (first | (with_reducible assumption) | (with_reducible exact Below.refl _ _) | (with_reducible refine below_al ?_ _) | (with_reducible refine Below.drew ?_)))); rintro e w11 ⟨q11, c11, rfl, s11, b11⟩)
              | (go_at_call 16; (with_reducible refine (G2.out _ _ _ ?_ ?_).mono ?_); (first | (with_reducible assumption) | (go_split_ands; with_reducible assumption) | (repeat' (first | (with_reducible assumption) | (with_reducible exact Below.refl _ _) | (with_reducible refine below_al ?_ _) | (with_reducible refine Below.drew ?_)))); (with_reducible assumption); rintro e w12 ⟨rfl, b12⟩)
              | (go_at_call 22; (with_reducible refine (G3.out _ ?_).mono ?_); (first | (with_reducible assumption) | (go_split_ands; with_reducible assumption) | (repeat' (first | (with_reducible assumption) | (with_reducible exact Below.refl _ _) | (with_reducible refine below_al ?_ _) | (with_reducible refine Below.drew ?_)))); rintro e w13 ⟨q13, c13, rfl, s13, b13⟩)
              | (go_at_call 16; (with_reducible refine (G4.out _ _ _ ?_ ?_).mono ?_); (first | (with_reducible assumption) | (go_split_ands; with_reducible assumption) | (repeat' (first | (with_reducible assumption) | (with_reducible exact Below.refl _ _) | (with_reducible refine below_al ?_ _) | (with_reducible refine Below.drew ?_)))); (with_reducible assumption); rintro e w14 ⟨rfl, b14⟩)
              | (go_at_call 23; (with_reducible refine (G5.out _ ?_).mono ?_); (first | (with_reducible assumption) | (go_split_ands; with_reducible assumption) | (repeat' (first | (with_reducible assumption) | (with_reducible exact Below.refl _ _) | (with_reducible refine below_al ?_ _) | (with_reducible refine Below.drew ?_)))); rintro e w15 ⟨rfl, b15⟩)
              | (go_at_call 17; (with_reducible refine (G6.out _ ?_).mono ?_); (first | (with_reducible assumption) | (go_split_ands; with_reducible assumption) | (repeat' (first | (with_reducible assumption) | (with_reducible exact Below.refl _ _) | (with_reducible refine below_al ?_ _) | (with_reducible refine Below.drew ?_)))); rintro e w16 ⟨rfl, b16⟩)
              | (go_at_call 18; (with_reducible refine (G7.out _ ?_).mono ?_); (first | (with_reducible assumption) | (go_split_ands; with_reducible assumption) | (repeat' (first | (with_reducible assumption) | (with_reducible exact Below.refl _ _) | (with_reducible refine below_al ?_ _) | (with_reducible refine Below.drew ?_)))); rintro e w17 ⟨rfl, b17⟩)
              | (go_at_call 24; (with_reducible refine (G8.out _ ?_).mono ?_); (first | (with_reducible assumption) | (go_split_ands; with_reducible assumption) | (repeat' (first | (with_reducible assumption) | (with_reducible exact Below.refl _ _) | (with_reducible refine below_al ?_ _) | (with_reducible refine Below.drew ?_)))); rintro e w18 ⟨rfl, b18⟩))
            rename_i hH
            go_wp2
            go_ret
            exact ⟨ret_bool (by simp), HEND.out _ hH.1⟩
        · rw [t1] at HRt
          rw [t2] at HRw
          go_wp2_with fail
          refine (HRt.out _ HM0.out.below).mono ?_
          rintro e W1 ⟨rfl, hb⟩
          have HM1 := Lib.hid (HM0.out.go hb)
          clear hb x0 x1 x2 x3 y0 y1 y2 y3 z0 z1 z2 z3
          obtain ⟨x0, x1, x2, x3, y0, y1, y2, y3, z0, z1, z2, z3⟩ := HM1.out.cells
          go_wp2_with fail
          refine (HRw.out _ HM1.out.below).mono ?_
          rintro e W2 ⟨rfl, hb⟩
          have HM2 := Lib.hid (HM1.out.go hb)
          clear hb x0 x1 x2 x3 y0 y1 y2 y3 z0 z1 z2 z3
          obtain ⟨x0, x1, x2, x3, y0, y1, y2, y3, z0, z1, z2, z3⟩ := HM2.out.cells
          go_wp2_with fail
          refine (HVr.out _ HM2.out.below).mono ?_
          rintro e W3 ⟨a2, c2, rfl, hi2, hb⟩
          have HM3 := Lib.hid (HM2.out.go hb)
          clear hb x0 x1 x2 x3 y0 y1 y2 y3 z0 z1 z2 z3
          obtain ⟨x0, x1, x2, x3, y0, y1, y2, y3, z0, z1, z2, z3⟩ := HM3.out.cells
          have HI2 := Lib.hid hi2
          clear hi2
          have hJ : ∀ w', Below W3.heap.size W3 w' → Below W3.heap.size W3 w' ∧ w'.cell? ⟨w.heap.size, 0, none⟩ = some (.int .u8 h.op) ∧ w'.cell? ⟨w.heap.size, 1, none⟩ = some (.string h.name) ∧ w'.cell? ⟨w.heap.size, 2, none⟩ = some (.int .i64 h.n) ∧ w'.cell? ⟨w.heap.size, 3, none⟩ = some (.slice q Lk cap) ∧ w'.cell? ⟨B3, 0, none⟩ = some (.int .u8 Tc.1.op) ∧ w'.cell? ⟨B3, 1, none⟩ = some (.string Tc.1.name) ∧ w'.cell? ⟨B3, 2, none⟩ = some (.int .i64 Tc.1.n) ∧ w'.cell? ⟨B3, 3, none⟩ = some (.slice q3 Tc.2.len c3) ∧ w'.cell? ⟨B4, 0, none⟩ = some (.int .u8 Tn.1.op) ∧ w'.cell? ⟨B4, 1, none⟩ = some (.string Tn.1.name) ∧ w'.cell? ⟨B4, 2, none⟩ = some (.int .i64 Tn.1.n) ∧ w'.cell? ⟨B4, 3, none⟩ = some (.slice q4 Tn.2.len c4) := fun w' hb => ⟨hb, (HM3.out.go hb).cells⟩
          have HJ := Lib.hid hJ
          have G1 := Lib.hid fun w' (hb : Below W3.heap.size W3 w') => (HCr.out w' (below_then HM3.out.below hb)).mono fun e w2 ⟨q', c', h1, h2, h3⟩ => (⟨q', c', h1, h2.here, below_then hb h3⟩ : ∃ q' c', e = Ending.returned (.agg #[.int .u8 Tc.1.op, .string Tc.1.name, .int .i64 Tc.1.n, .slice q' Tc.2.len c']) ∧ SlF w2 q' c' Tc.2 ∧ Below W3.heap.size W3 w2)
          have G2 := Lib.hid fun q' c' w' (hb : Below W3.heap.size W3 w') (hs : SlF w' q' c' Tc.2) => (HA1.out q3 c3 q' c' w' (HM3.out.go hb).sc hs).mono fun e w2 hh => And.intro hh.1 (below_then hb hh.2)
          have G3 := Lib.hid fun w' (hb : Below W3.heap.size W3 w') => (HNr.out w' (below_then HM3.out.below hb)).mono fun e w2 ⟨q', c', h1, h2, h3⟩ => (⟨q', c', h1, h2.here, below_then hb h3⟩ : ∃ q' c', e = Ending.returned (.agg #[.int .u8 Tn.1.op, .string Tn.1.name, .int .i64 Tn.1.n, .slice q' Tn.2.len c']) ∧ SlF w2 q' c' Tn.2 ∧ Below W3.heap.size W3 w2)
          have G4 := Lib.hid fun q' c' w' (hb : Below W3.heap.size W3 w') (hs : SlF w' q' c' Tn.2) => (HA2.out q4 c4 q' c' w' (HM3.out.go hb).sn hs).mono fun e w2 hh => And.intro hh.1 (below_then hb hh.2)
          have G5 : Hid (∀ w', Below W3.heap.size W3 w' → Calls Try.prog 23 #[.slice av LN cv, .slice a2 LN c2] w' fun e w2 => e = Ending.returned (.bool true) ∧ Below W3.heap.size W3 w2) := Lib.hid fun w' hb => by
            have := HSI.out av cv a2 c2 w' (HM3.out.go hb).iv (HI2.out.below hb)
            refine this.mono ?_
            rintro e w2 ⟨r, rfl, hr, hb2⟩
            have : r = true := (by first | exact hr.2 trivial | exact hr.2 rfl | simpa using hr)
            subst this
            exact ⟨rfl, below_then hb hb2⟩
          have G6 := Lib.hid fun w' (hb : Below W3.heap.size W3 w') => (HCl.out w' (below_then HM3.out.below hb)).mono fun e w2 hh => And.intro hh.1 (below_then hb hh.2)
          have G7 := Lib.hid fun w' (hb : Below W3.heap.size W3 w') => (HSt.out w' (below_then HM3.out.below hb)).mono fun e w2 hh => And.intro hh.1 (below_then hb hh.2)
          have G8 := Lib.hid fun w' (hb : Below W3.heap.size W3 w') => (HSr.out w' (below_then HM3.out.below hb)).mono fun e w2 hh => And.intro hh.1 (below_then hb hh.2)
          have HEND : Hid (∀ w', Below W3.heap.size W3 w' → Below w.heap.size w w') := Lib.hid fun w' hb => below_then HM3.out.below hb
          clear hJ x0 x1 x2 x3 y0 y1 y2 y3 z0 z1 z2 z3
          rcases hcz with ⟨hz, hcl⟩ | ⟨hz, hcl⟩
          all_goals
            subst hcl
            (try subst hz)
            go_wp2_with fail
            go_region_held3 (fun w' => Below W3.heap.size W3 w' ∧ w'.cell? ⟨w.heap.size, 0, none⟩ = some (.int .u8 h.op) ∧ w'.cell? ⟨w.heap.size, 1, none⟩ = some (.string h.name) ∧ w'.cell? ⟨w.heap.size, 2, none⟩ = some (.int .i64 h.n) ∧ w'.cell? ⟨w.heap.size, 3, none⟩ = some (.slice q Lk cap) ∧ w'.cell? ⟨B3, 0, none⟩ = some (.int .u8 Tc.1.op) ∧ w'.cell? ⟨B3, 1, none⟩ = some (.string Tc.1.name) ∧ w'.cell? ⟨B3, 2, none⟩ = some (.int .i64 Tc.1.n) ∧ w'.cell? ⟨B3, 3, none⟩ = some (.slice q3 Tc.2.len c3) ∧ w'.cell? ⟨B4, 0, none⟩ = some (.int .u8 Tn.1.op) ∧ w'.cell? ⟨B4, 1, none⟩ = some (.string Tn.1.name) ∧ w'.cell? ⟨B4, 2, none⟩ = some (.int .i64 Tn.1.n) ∧ w'.cell? ⟨B4, 3, none⟩ = some (.slice q4 Tn.2.len c4)) ((refine HJ.out _ ?_; (first | (with_reducible assumption) | (go_split_ands; with_reducible assumption) | (repeat' (first | (with_reducible assumption) | (with_reducible exact Below.refl _ _) | (with_reducible refine below_al ?_ _) | (with_reducible refine Below.drew ?_)))))) (first
              | (go_at_call 21; (with_reducible refine (G1.out _ ?_).mono ?_); (first | (with_reducible assumption) | (go_split_ands; with_reducible assumption) | (repeat' (first | (with_reducible assumption) | (with_reducible exact Below.refl _ _) | (with_reducible refine below_al ?_ _) | (with_reducible refine Below.drew ?_)))); rintro e w11 ⟨q11, c11, rfl, s11, b11⟩)
              | (go_at_call 16; (with_reducible refine (G2.out _ _ _ ?_ ?_).mono ?_); (first | (with_reducible assumption) | (go_split_ands; with_reducible assumption) | (repeat' (first | (with_reducible assumption) | (with_reducible exact Below.refl _ _) | (with_reducible refine below_al ?_ _) | (with_reducible refine Below.drew ?_)))); (with_reducible assumption); rintro e w12 ⟨rfl, b12⟩)
              | (go_at_call 22; (with_reducible refine (G3.out _ ?_).mono ?_); (first | (with_reducible assumption) | (go_split_ands; with_reducible assumption) | (repeat' (first | (with_reducible assumption) | (with_reducible exact Below.refl _ _) | (with_reducible refine below_al ?_ _) | (with_reducible refine Below.drew ?_)))); rintro e w13 ⟨q13, c13, rfl, s13, b13⟩)
              | (go_at_call 16; (with_reducible refine (G4.out _ _ _ ?_ ?_).mono ?_); (first | (with_reducible assumption) | (go_split_ands; with_reducible assumption) | (repeat' (first | (with_reducible assumption) | (with_reducible exact Below.refl _ _) | (with_reducible refine below_al ?_ _) | (with_reducible refine Below.drew ?_)))); (with_reducible assumption); rintro e w14 ⟨rfl, b14⟩)
              | (go_at_call 23; (with_reducible refine (G5.out _ ?_).mono ?_); (first | (with_reducible assumption) | (go_split_ands; with_reducible assumption) | (repeat' (first | (with_reducible assumption) | (with_reducible exact Below.refl _ _) | (with_reducible refine below_al ?_ _) | (with_reducible refine Below.drew ?_)))); rintro e w15 ⟨rfl, b15⟩)
              | (go_at_call 17; (with_reducible refine (G6.out _ ?_).mono ?_); (first | (with_reducible assumption) | (go_split_ands; with_reducible assumption) | (repeat' (first | (with_reducible assumption) | (with_reducible exact Below.refl _ _) | (with_reducible refine below_al ?_ _) | (with_reducible refine Below.drew ?_)))); rintro e w16 ⟨rfl, b16⟩)
              | (go_at_call 18; (with_reducible refine (G7.out _ ?_).mono ?_); (first | (with_reducible assumption) | (go_split_ands; with_reducible assumption) | (repeat' (first | (with_reducible assumption) | (with_reducible exact Below.refl _ _) | (with_reducible refine below_al ?_ _) | (with_reducible refine Below.drew ?_)))); rintro e w17 ⟨rfl, b17⟩)
              | (go_at_call 24; (with_reducible refine (G8.out _ ?_).mono ?_); (first | (with_reducible assumption) | (go_split_ands; with_reducible assumption) | (repeat' (first | (with_reducible assumption) | (with_reducible exact Below.refl _ _) | (with_reducible refine below_al ?_ _) | (with_reducible refine Below.drew ?_)))); rintro e w18 ⟨rfl, b18⟩))
            rename_i hH
            go_wp2
            go_ret
            exact ⟨ret_bool (by simp), HEND.out _ hH.1⟩
      · have hr0 : riB h k = false := by simpa using hr
        have hrr : rightB h k 1 = false ∧ rightB h k 2 = false := by unfold riB at hr0; simpa using hr0
        have hTc : Tc = zT := by rw [HTc.out, if_neg hr]
        have hTn : Tn = zT := by rw [HTn.out, if_neg hr]
        have hl : l = [] := by rw [HLd.out, if_neg hr]
        have HSm := Lib.hid fun w' (hb : Below w.heap.size w w') => Same_no h k q cap h k q cap w' hh (hsl.below hb) hk hsz hh (hsl.below hb) hk hsz (by rw [hr0]; rfl)
        rw [HLK.out] at HSm
        rw [hrr.1] at HRt HCl HSt
        rw [hrr.2] at HRw HCl HSt
        simp only [Bool.or_self, Bool.false_and] at HCl HSt
        have HA : Hid (∀ q' c' w', SlF w' q' c' .nil → Calls Try.prog 16 #[.agg #[.int .u8 0, .string ⟨#[]⟩, .int .i64 0, .slice q' 0 c'], .agg #[.int .u8 0, .string ⟨#[]⟩, .int .i64 0, .slice none 0 0]] w' fun e w'' => e = .returned (.bool true) ∧ Below w'.heap.size w' w'') := Lib.hid fun q' c' w' hs => by
          have := Alike_any 1 ⟨0, ⟨#[]⟩, 0⟩ ⟨0, ⟨#[]⟩, 0⟩ .nil .nil q' none c' 0 w' (by simp [Fo.size]) (hd_ok (by omega) (by omega) (by decide)) (hd_ok (by omega) (by omega) (by decide)) trivial trivial hs (slF_nil _)
          rw [alk_self] at this
          exact this
        subst hTc hTn hl
        have hsc := hM.sc
        have hsn := hM.sn
        change W.cell? ⟨B3, 0, none⟩ = some (.int .u8 0) at y0
        change W.cell? ⟨B3, 1, none⟩ = some (.string ⟨#[]⟩) at y1
        change W.cell? ⟨B3, 2, none⟩ = some (.int .i64 0) at y2
        change W.cell? ⟨B3, 3, none⟩ = some (.slice q3 0 c3) at y3
        change W.cell? ⟨B4, 0, none⟩ = some (.int .u8 0) at z0
        change W.cell? ⟨B4, 1, none⟩ = some (.string ⟨#[]⟩) at z1
        change W.cell? ⟨B4, 2, none⟩ = some (.int .i64 0) at z2
        change W.cell? ⟨B4, 3, none⟩ = some (.slice q4 0 c4) at z3
        clear hM hh hk hsl hsz hrr hr hr0 HTc HTn HLd hsc hsn
        go_wp2_with fail
        refine (HRt.out _ HM0.out.below).mono ?_
        rintro e W1 ⟨rfl, hb⟩
        have HM1 := Lib.hid (HM0.out.go hb)
        clear hb x0 x1 x2 x3 y0 y1 y2 y3 z0 z1 z2 z3
        obtain ⟨x0, x1, x2, x3, y0, y1, y2, y3, z0, z1, z2, z3⟩ := HM1.out.cells
        change W1.cell? ⟨B3, 0, none⟩ = some (.int .u8 0) at y0
        change W1.cell? ⟨B3, 1, none⟩ = some (.string ⟨#[]⟩) at y1
        change W1.cell? ⟨B3, 2, none⟩ = some (.int .i64 0) at y2
        change W1.cell? ⟨B3, 3, none⟩ = some (.slice q3 0 c3) at y3
        change W1.cell? ⟨B4, 0, none⟩ = some (.int .u8 0) at z0
        change W1.cell? ⟨B4, 1, none⟩ = some (.string ⟨#[]⟩) at z1
        change W1.cell? ⟨B4, 2, none⟩ = some (.int .i64 0) at z2
        change W1.cell? ⟨B4, 3, none⟩ = some (.slice q4 0 c4) at z3
        go_wp2_with fail
        refine (HRw.out _ HM1.out.below).mono ?_
        rintro e W2 ⟨rfl, hb⟩
        have HM2 := Lib.hid (HM1.out.go hb)
        clear hb x0 x1 x2 x3 y0 y1 y2 y3 z0 z1 z2 z3
        obtain ⟨x0, x1, x2, x3, y0, y1, y2, y3, z0, z1, z2, z3⟩ := HM2.out.cells
        change W2.cell? ⟨B3, 0, none⟩ = some (.int .u8 0) at y0
        change W2.cell? ⟨B3, 1, none⟩ = some (.string ⟨#[]⟩) at y1
        change W2.cell? ⟨B3, 2, none⟩ = some (.int .i64 0) at y2
        change W2.cell? ⟨B3, 3, none⟩ = some (.slice q3 0 c3) at y3
        change W2.cell? ⟨B4, 0, none⟩ = some (.int .u8 0) at z0
        change W2.cell? ⟨B4, 1, none⟩ = some (.string ⟨#[]⟩) at z1
        change W2.cell? ⟨B4, 2, none⟩ = some (.int .i64 0) at z2
        change W2.cell? ⟨B4, 3, none⟩ = some (.slice q4 0 c4) at z3
        go_wp2_with fail
        refine (HA.out q3 c3 _ HM2.out.sc).mono ?_
        rintro e W3 ⟨rfl, hb⟩
        have HM3 := Lib.hid (HM2.out.go hb)
        clear hb x0 x1 x2 x3 y0 y1 y2 y3 z0 z1 z2 z3
        obtain ⟨x0, x1, x2, x3, y0, y1, y2, y3, z0, z1, z2, z3⟩ := HM3.out.cells
        change W3.cell? ⟨B3, 0, none⟩ = some (.int .u8 0) at y0
        change W3.cell? ⟨B3, 1, none⟩ = some (.string ⟨#[]⟩) at y1
        change W3.cell? ⟨B3, 2, none⟩ = some (.int .i64 0) at y2
        change W3.cell? ⟨B3, 3, none⟩ = some (.slice q3 0 c3) at y3
        change W3.cell? ⟨B4, 0, none⟩ = some (.int .u8 0) at z0
        change W3.cell? ⟨B4, 1, none⟩ = some (.string ⟨#[]⟩) at z1
        change W3.cell? ⟨B4, 2, none⟩ = some (.int .i64 0) at z2
        change W3.cell? ⟨B4, 3, none⟩ = some (.slice q4 0 c4) at z3
        go_wp2_with fail
        refine (HA.out q4 c4 _ HM3.out.sn).mono ?_
        rintro e W4 ⟨rfl, hb⟩
        have HM4 := Lib.hid (HM3.out.go hb)
        clear hb x0 x1 x2 x3 y0 y1 y2 y3 z0 z1 z2 z3
        obtain ⟨x0, x1, x2, x3, y0, y1, y2, y3, z0, z1, z2, z3⟩ := HM4.out.cells
        change W4.cell? ⟨B3, 0, none⟩ = some (.int .u8 0) at y0
        change W4.cell? ⟨B3, 1, none⟩ = some (.string ⟨#[]⟩) at y1
        change W4.cell? ⟨B3, 2, none⟩ = some (.int .i64 0) at y2
        change W4.cell? ⟨B3, 3, none⟩ = some (.slice q3 0 c3) at y3
        change W4.cell? ⟨B4, 0, none⟩ = some (.int .u8 0) at z0
        change W4.cell? ⟨B4, 1, none⟩ = some (.string ⟨#[]⟩) at z1
        change W4.cell? ⟨B4, 2, none⟩ = some (.int .i64 0) at z2
        change W4.cell? ⟨B4, 3, none⟩ = some (.slice q4 0 c4) at z3
        go_wp2_with fail
        refine (HCl.out _ HM4.out.below).mono ?_
        rintro e W5 ⟨rfl, hb⟩
        have HM5 := Lib.hid (HM4.out.go hb)
        clear hb x0 x1 x2 x3 y0 y1 y2 y3 z0 z1 z2 z3
        obtain ⟨x0, x1, x2, x3, y0, y1, y2, y3, z0, z1, z2, z3⟩ := HM5.out.cells
        change W5.cell? ⟨B3, 0, none⟩ = some (.int .u8 0) at y0
        change W5.cell? ⟨B3, 1, none⟩ = some (.string ⟨#[]⟩) at y1
        change W5.cell? ⟨B3, 2, none⟩ = some (.int .i64 0) at y2
        change W5.cell? ⟨B3, 3, none⟩ = some (.slice q3 0 c3) at y3
        change W5.cell? ⟨B4, 0, none⟩ = some (.int .u8 0) at z0
        change W5.cell? ⟨B4, 1, none⟩ = some (.string ⟨#[]⟩) at z1
        change W5.cell? ⟨B4, 2, none⟩ = some (.int .i64 0) at z2
        change W5.cell? ⟨B4, 3, none⟩ = some (.slice q4 0 c4) at z3
        go_wp2_with fail
        refine (HSt.out _ HM5.out.below).mono ?_
        rintro e W6 ⟨rfl, hb⟩
        have HM6 := Lib.hid (HM5.out.go hb)
        clear hb x0 x1 x2 x3 y0 y1 y2 y3 z0 z1 z2 z3
        obtain ⟨x0, x1, x2, x3, y0, y1, y2, y3, z0, z1, z2, z3⟩ := HM6.out.cells
        change W6.cell? ⟨B3, 0, none⟩ = some (.int .u8 0) at y0
        change W6.cell? ⟨B3, 1, none⟩ = some (.string ⟨#[]⟩) at y1
        change W6.cell? ⟨B3, 2, none⟩ = some (.int .i64 0) at y2
        change W6.cell? ⟨B3, 3, none⟩ = some (.slice q3 0 c3) at y3
        change W6.cell? ⟨B4, 0, none⟩ = some (.int .u8 0) at z0
        change W6.cell? ⟨B4, 1, none⟩ = some (.string ⟨#[]⟩) at z1
        change W6.cell? ⟨B4, 2, none⟩ = some (.int .i64 0) at z2
        change W6.cell? ⟨B4, 3, none⟩ = some (.slice q4 0 c4) at z3
        go_wp2_with fail
        refine (HSm.out _ HM6.out.below).mono ?_
        rintro e W7 ⟨rfl, hb⟩
        have HM7 := Lib.hid (HM6.out.go hb)
        clear hb x0 x1 x2 x3 y0 y1 y2 y3 z0 z1 z2 z3
        obtain ⟨x0, x1, x2, x3, y0, y1, y2, y3, z0, z1, z2, z3⟩ := HM7.out.cells
        change W7.cell? ⟨B3, 0, none⟩ = some (.int .u8 0) at y0
        change W7.cell? ⟨B3, 1, none⟩ = some (.string ⟨#[]⟩) at y1
        change W7.cell? ⟨B3, 2, none⟩ = some (.int .i64 0) at y2
        change W7.cell? ⟨B3, 3, none⟩ = some (.slice q3 0 c3) at y3
        change W7.cell? ⟨B4, 0, none⟩ = some (.int .u8 0) at z0
        change W7.cell? ⟨B4, 1, none⟩ = some (.string ⟨#[]⟩) at z1
        change W7.cell? ⟨B4, 2, none⟩ = some (.int .i64 0) at z2
        change W7.cell? ⟨B4, 3, none⟩ = some (.slice q4 0 c4) at z3
        go_wp2
        go_ret
        exact ⟨rfl, HM7.out.below⟩
    go_region_held3 (fun w' => Below w2.heap.size w2 w' ∧ w'.cell? ⟨w.heap.size, 0, none⟩ = some (.int .u8 h.op) ∧ w'.cell? ⟨w.heap.size, 1, none⟩ = some (.string h.name) ∧ w'.cell? ⟨w.heap.size, 2, none⟩ = some (.int .i64 h.n) ∧ w'.cell? ⟨w.heap.size, 3, none⟩ = some (.slice q Lk cap)) ((refine HJ.out _ ?_; (repeat' (first | (with_reducible assumption) | (with_reducible exact Below.refl _ _) | (with_reducible refine below_st ?_ ?_ _ _ _ _) | (with_reducible refine below_al ?_ _) | (with_reducible refine Below.drew ?_) | omega | (simp; omega))))) (first
      | (go_at_call 11; (with_reducible refine (G1.out _ ?_).mono ?_); (first | (with_reducible assumption) | (go_split_ands; with_reducible assumption) | (repeat' (first | (with_reducible assumption) | (with_reducible exact Below.refl _ _) | (with_reducible refine below_al ?_ _) | (with_reducible refine Below.drew ?_)))); rintro e w3 ⟨q3, c3, F3, rfl, l3, m3, o3, n3, f3, b3⟩; have r3 : Below w2.heap.size w2 w3 := below_then (by (first | (with_reducible assumption) | (go_split_ands; with_reducible assumption) | (repeat' (first | (with_reducible assumption) | (with_reducible exact Below.refl _ _) | (with_reducible refine below_al ?_ _) | (with_reducible refine Below.drew ?_))))) b3; have z3 := r3.size; (try first | (with_reducible (have ra3 := row_new2D b3; have rb3 := row_new3D b3)) | (with_reducible (have ra3 := row_new2 b3; have rb3 := row_new3 b3)) | (with_reducible (have ra3 := row_new2D (below_of_drew b3); have rb3 := row_new3D (below_of_drew b3))) | (with_reducible (have ra3 := row_new2 (below_of_drew b3); have rb3 := row_new3 (below_of_drew b3))) | (with_reducible have ra3 := row_newD b3) | (with_reducible have ra3 := row_new b3) | (with_reducible have ra3 := row_newD (below_of_drew b3)) | (with_reducible have ra3 := row_new (below_of_drew b3))); (try (obtain ⟨ra30, ra31, ra32, ra33, ra34, ra35, ra36, ra37⟩ := row4 ra3; have ra3l := ra3.lt; have ra3n := Nat.ne_of_lt ra3l; have ra3m := Nat.ne_of_gt ra3l)); (try (obtain ⟨rb30, rb31, rb32, rb33, rb34, rb35, rb36, rb37⟩ := row4 rb3; have rb3l := rb3.lt; have rb3n := Nat.ne_of_lt rb3l; have rb3m := Nat.ne_of_gt rb3l)))
      | (go_at_call 12; (with_reducible refine (G2.out _ ?_).mono ?_); (first | (with_reducible assumption) | (go_split_ands; with_reducible assumption) | (repeat' (first | (with_reducible assumption) | (with_reducible exact Below.refl _ _) | (with_reducible refine below_al ?_ _) | (with_reducible refine Below.drew ?_)))); rintro e w4 ⟨q4, c4, F4, rfl, l4, m4, o4, n4, f4, b4⟩; have r4 : Below w2.heap.size w2 w4 := below_then (by (first | (with_reducible assumption) | (go_split_ands; with_reducible assumption) | (repeat' (first | (with_reducible assumption) | (with_reducible exact Below.refl _ _) | (with_reducible refine below_al ?_ _) | (with_reducible refine Below.drew ?_))))) b4; have z4 := r4.size; have g4 : Below w3.heap.size w3 w4 := (by with_reducible first | exact b4 | exact below_of_drew b4 | exact below_alc b4 | exact below_alc (below_of_drew b4) | exact below_alc (below_alc b4) | exact below_alc (below_alc (below_of_drew b4))); (try (with_reducible have ra4 := RowIs.below ra3 g4)); (try (with_reducible have rb4 := RowIs.below rb3 g4)); (try first | (with_reducible (have rc4 := row_new2D b4; have rd4 := row_new3D b4)) | (with_reducible (have rc4 := row_new2 b4; have rd4 := row_new3 b4)) | (with_reducible (have rc4 := row_new2D (below_of_drew b4); have rd4 := row_new3D (below_of_drew b4))) | (with_reducible (have rc4 := row_new2 (below_of_drew b4); have rd4 := row_new3 (below_of_drew b4))) | (with_reducible have rc4 := row_newD b4) | (with_reducible have rc4 := row_new b4) | (with_reducible have rc4 := row_newD (below_of_drew b4)) | (with_reducible have rc4 := row_new (below_of_drew b4))); (try (obtain ⟨ra40, ra41, ra42, ra43, ra44, ra45, ra46, ra47⟩ := row4 ra4; have ra4l := ra4.lt; have ra4n := Nat.ne_of_lt ra4l; have ra4m := Nat.ne_of_gt ra4l)); (try (obtain ⟨rb40, rb41, rb42, rb43, rb44, rb45, rb46, rb47⟩ := row4 rb4; have rb4l := rb4.lt; have rb4n := Nat.ne_of_lt rb4l; have rb4m := Nat.ne_of_gt rb4l)); (try (obtain ⟨rc40, rc41, rc42, rc43, rc44, rc45, rc46, rc47⟩ := row4 rc4; have rc4l := rc4.lt; have rc4n := Nat.ne_of_lt rc4l; have rc4m := Nat.ne_of_gt rc4l)); (try (obtain ⟨rd40, rd41, rd42, rd43, rd44, rd45, rd46, rd47⟩ := row4 rd4; have rd4l := rd4.lt; have rd4n := Nat.ne_of_lt rd4l; have rd4m := Nat.ne_of_gt rd4l)))
      | (go_at_call 13; (with_reducible refine (G3.out _ ?_).mono ?_); (first | (with_reducible assumption) | (go_split_ands; with_reducible assumption) | (repeat' (first | (with_reducible assumption) | (with_reducible exact Below.refl _ _) | (with_reducible refine below_al ?_ _) | (with_reducible refine Below.drew ?_)))); rintro e w5 ⟨a, cv, rfl, iv, b5⟩; have r5 : Below w2.heap.size w2 w5 := below_then (by (first | (with_reducible assumption) | (go_split_ands; with_reducible assumption) | (repeat' (first | (with_reducible assumption) | (with_reducible exact Below.refl _ _) | (with_reducible refine below_al ?_ _) | (with_reducible refine Below.drew ?_))))) b5; have z5 := r5.size; have g5 : Below w4.heap.size w4 w5 := (by with_reducible first | exact b5 | exact below_of_drew b5 | exact below_alc b5 | exact below_alc (below_of_drew b5) | exact below_alc (below_alc b5) | exact below_alc (below_alc (below_of_drew b5))); (try (with_reducible have ra5 := RowIs.below ra4 g5)); (try (with_reducible have rb5 := RowIs.below rb4 g5)); (try (with_reducible have rc5 := RowIs.below rc4 g5)); (try (with_reducible have rd5 := RowIs.below rd4 g5)); (try first | (with_reducible (have re5 := row_new2D b5; have rf5 := row_new3D b5)) | (with_reducible (have re5 := row_new2 b5; have rf5 := row_new3 b5)) | (with_reducible (have re5 := row_new2D (below_of_drew b5); have rf5 := row_new3D (below_of_drew b5))) | (with_reducible (have re5 := row_new2 (below_of_drew b5); have rf5 := row_new3 (below_of_drew b5))) | (with_reducible have re5 := row_newD b5) | (with_reducible have re5 := row_new b5) | (with_reducible have re5 := row_newD (below_of_drew b5)) | (with_reducible have re5 := row_new (below_of_drew b5))); (try (obtain ⟨ra50, ra51, ra52, ra53, ra54, ra55, ra56, ra57⟩ := row4 ra5; have ra5l := ra5.lt; have ra5n := Nat.ne_of_lt ra5l; have ra5m := Nat.ne_of_gt ra5l)); (try (obtain ⟨rb50, rb51, rb52, rb53, rb54, rb55, rb56, rb57⟩ := row4 rb5; have rb5l := rb5.lt; have rb5n := Nat.ne_of_lt rb5l; have rb5m := Nat.ne_of_gt rb5l)); (try (obtain ⟨rc50, rc51, rc52, rc53, rc54, rc55, rc56, rc57⟩ := row4 rc5; have rc5l := rc5.lt; have rc5n := Nat.ne_of_lt rc5l; have rc5m := Nat.ne_of_gt rc5l)); (try (obtain ⟨rd50, rd51, rd52, rd53, rd54, rd55, rd56, rd57⟩ := row4 rd5; have rd5l := rd5.lt; have rd5n := Nat.ne_of_lt rd5l; have rd5m := Nat.ne_of_gt rd5l)); (try (obtain ⟨re50, re51, re52, re53, re54, re55, re56, re57⟩ := row4 re5; have re5l := re5.lt; have re5n := Nat.ne_of_lt re5l; have re5m := Nat.ne_of_gt re5l)); (try (obtain ⟨rf50, rf51, rf52, rf53, rf54, rf55, rf56, rf57⟩ := row4 rf5; have rf5l := rf5.lt; have rf5n := Nat.ne_of_lt rf5l; have rf5m := Nat.ne_of_gt rf5l))))
    all_goals
      have s4 := g4.size
      have s5 := g5.size
      have t3 := b3.size
      have t4 := b4.size
      have t5 := b5.size
      unfold FmMid
      refine ⟨rfl, q3, c3, q4, c4, a, cv, _, _, _, _, _, _, _, _, _, _, _, _, _, rfl, ?_⟩
      with_reducible refine fm_endZ HB2.out HX2.out r3 g4 g5 o3 l3 m3 f3 o4 l4 m4 f4 iv ⟨?_, t3⟩ ⟨?_, t4⟩ ⟨?_, t5⟩ ?_ ?_ ?_ ?_
      · (first | (simp; done) | (simp; omega))
      · (first | (simp; done) | (simp; omega))
      · (first | (simp; done) | (simp; omega))
      · go_split_ands; with_reducible assumption
      · first
          | with_reducible exact endA _ _ _
          | with_reducible exact endA' _ _ _
          | with_reducible exact endC (by assumption) (by assumption) (by omega) _ _ _ _ _ _ _ _
          | with_reducible exact endB (by assumption) _ _ _ _ _
          | with_reducible exact endB' (by assumption) _ _ _ _ _
      · simp at t3 t4 t5; simp; omega
      · simp at t3 t4 t5; simp; omega
end Go.Proofs.Ytjajnlmnkefhbaa
