/- TreeCopies: the law's walk. -/
import Derived.Test.YtcjhgefkbnbmnaaPTnC
import Derived.Test.YtcjhgefkbnbmnaaPTmT
namespace Go.Proofs.Ytcjhgefkbnbmnaa
open Go.RowKit LM
set_option linter.unusedVariables false

/-- A term as it lies, and its bulk. -/
structure TmIs (w : World) (h : TH) (k : TF) (qa : Option Addr) (ca : Nat) (q : Option Addr) (cap : Nat) : Prop where
  hh : h.ok
  hk : k.ok
  ha : SlF w qa ca h.ak
  hs : TSl w q cap k
  hb : 1 + h.ak.size + k.bulk ≤ 1048576

theorem spOut_below {w2 W W' : World} {F : List Nat} (hb : Below w2.heap.size w2 W) (hF : ∀ c ∈ F, w2.heap.size ≤ c) (h : SpOut F W W') : Below w2.heap.size w2 W' :=
  hb.trans (h.below hF hb.size)

set_option maxRecDepth 100000 in
set_option maxHeartbeats 4000000 in
theorem law_copies (h : TH) (k : TF) (qa : Option Addr) (ca : Nat) (q : Option Addr) (cap : Nat) (w : World) (ht : TmIs w h k qa ca q cap) :
    Calls Try.prog 8 #[.agg (tmV h qa ca q k.len cap)] w fun e w' => e = .returned (.bool true) ∧ Below w.heap.size w w' := by
  have HT := Lib.hid ht
  have HM := Lib.hid fun w' (hb : Below w.heap.size w w') => many5_any h k qa ca q cap w' (ht.ha.below hb) (ht.hs.below hb) (by have := ht.hb; omega)
  have HCP := Lib.hid fun w' (hb : Below w.heap.size w w') => Copy_any h k qa ca q cap w' ht.hh ht.hk (ht.ha.below hb) (ht.hs.below hb) (by have := ht.hb; omega)
  have HND := Lib.hid fun w' (hb : Below w.heap.size w w') => Node_any h k qa ca q cap 0 w' (by omega) (by omega) ht.hh ht.hk (ht.ha.below hb) (ht.hs.below hb) (by have := ht.hb; omega)
  have HAK : Hid (∀ w' qa' ca' q' cap', Below w.heap.size w w' → SlF w' qa' ca' h.ak → TSl w' q' cap' k → Calls Try.prog 40 #[.agg (tmV h qa' ca' q' k.len cap'), .agg (tmV h qa ca q k.len cap)] w' fun e w'' => e = .returned (.bool true) ∧ Below w'.heap.size w' w'') :=
    Lib.hid fun w' qa' ca' q' cap' hb h1 h2 => by
      have := TAlike_any (k.size + 1) h h k k qa' qa ca' ca q' q cap' cap w' (by omega) ht.hh ht.hh ht.hk ht.hk h1 (ht.ha.below hb) h2 (ht.hs.below hb)
      rw [talk_self] at this
      exact this
  have HSZ : Hid (h.ak.size ≤ 1099511627776 ∧ k.bulk ≤ 1099511627776) := Lib.hid ⟨by have := ht.hb; omega, by have := ht.hb; omega⟩
  have HAL := Lib.hid talive_any
  have HX0 := Lib.hid (World.alloc_heap_new w (.cells (tmV h qa ca q k.len cap) 43))
  clear ht
  generalize hn : (decide (300 < 1 + k.size) || decide (900 < 1 + h.ak.size + k.bulk)) = n1 at *
  clear hn
  unfold tmV at HM HCP HND HAK HX0 ⊢
  go_enter Try.func8, Try.ntmps8
  go_wp2_with fail
  refine (HAL.out _).mono ?_
  rintro e w1 ⟨rfl, hb1⟩
  have hx1 := (hb1.block _ (by simp)).trans HX0.out
  obtain ⟨x0, x1, x2, x3, x4, x5, x6, x7, x8, x9⟩ := row10 hx1
  have HB1 := Lib.hid (below_then (below_box _ _) hb1)
  have HX1 := Lib.hid hx1
  clear hb1 hx1
  go_wp2_with fail
  refine (HM.out _ HB1.out).mono ?_
  rintro e w2 ⟨rfl, hb2⟩
  have hx2 := (hb2.block _ (Array.getElem?_eq_some_iff.1 HX1.out).1).trans HX1.out
  have HB2 := Lib.hid (below_then HB1.out hb2)
  have HX2 := Lib.hid hx2
  clear hb2 hx2 x0 x1 x2 x3 x4 x5 x6 x7 x8 x9 HX1 HB1
  cases n1
  case true =>
    go_wp2
    go_ret
    exact ⟨rfl, HB2.out⟩
  case false =>
    go_wp2
    have HCEL := Lib.hid fun W (hb : Below w2.heap.size w2 W) => row10 ((hb.block _ (Array.getElem?_eq_some_iff.1 HX2.out).1).trans HX2.out)
    have HCP2 : Hid (∀ W, Below w2.heap.size w2 W → Calls Try.prog 48 #[.agg #[.int .u8 h.op, .string h.name, .string h.arg, .int .i64 h.n, .bool h.has, .int .u8 h.ah.op, .string h.ah.name, .int .i64 h.ah.n, .slice qa h.ak.len ca, .slice q k.len cap]] W fun e W' => ∃ qa' ca' q' cap' F, e = .returned (.agg (tmV h qa' ca' q' k.len cap')) ∧ TmOwn W' h k qa' ca' q' cap' F ∧ F.Nodup ∧ (∀ c ∈ F, W.heap.size ≤ c ∧ c < W'.heap.size) ∧ Below W.heap.size W W') := Lib.hid fun W hb => by
      refine (HCP.out W (below_go2 HB2.out hb)).mono ?_
      rintro e W' ⟨qa', ca', q', cap', Fa, F, he, h1, h2, h3, h4, h5, h6, h7⟩
      exact ⟨qa', ca', q', cap', Fa ++ F, he, ⟨h1, h2, Fa, F, rfl, h3, h4⟩, h5, h6, h7⟩
    refine wp_region_inv (fun d a W => ∃ v3 v4 v11 v12 v13 v14 F1 F2 L3 L4, a = { tmps := #[.agg #[.int .u8 h.op, .string h.name, .string h.arg, .int .i64 h.n, .bool h.has, .int .u8 h.ah.op, .string h.ah.name, .int .i64 h.ah.n, .slice qa h.ak.len ca, .slice q k.len cap], .pointer (some ⟨w.heap.size, 0, none⟩), .bool false, v3, v4, undef, undef, .bool true, .bool false, .agg #[.int .u8 h.op, .string h.name, .string h.arg, .int .i64 h.n, .bool h.has, .int .u8 h.ah.op, .string h.ah.name, .int .i64 h.ah.n, .slice qa h.ak.len ca, .slice q k.len cap], .bool false, v11, v12, v13, v14, undef, undef, undef, undef, undef, undef, undef, undef, undef, undef, undef, undef, undef, undef, undef, undef], defers := [] } ∧ CpS w2 h k (.agg #[.int .u8 h.op, .string h.name, .string h.arg, .int .i64 h.n, .bool h.has, .int .u8 h.ah.op, .string h.ah.name, .int .i64 h.ah.n, .slice qa h.ak.len ca, .slice q k.len cap]) d v3 v4 v11 v12 v13 v14 F1 F2 L3 L4 W) (by kernel_rfl) (by kernel_rfl) ?_ ?_ ?_
    · exact ⟨undef, undef, undef, undef, undef, undef, [], [], [], [], rfl, (Below.refl _ _).drew, (fun h => nomatch h), (fun h => nomatch h), by simp, by simp, (fun h => nomatch h), (fun h => nomatch h), (fun h => nomatch h), (fun h => nomatch h), (fun h => nomatch h), (fun h => nomatch h)⟩
    · rintro i hi d a W hdi hdep ⟨v3, v4, v11, v12, v13, v14, F1, F2, L3, L4, rfl, hS⟩
      have hi' : i = 0 ∨ i = 1 ∨ i = 2 ∨ i = 3 ∨ i = 4 ∨ i = 5 ∨ i = 6 ∨ i = 7 := by simp at hi; omega
      obtain ⟨x0, x1, x2, x3, x4, x5, x6, x7, x8, x9⟩ := HCEL.out _ hS.below
      have HS := Lib.hid hS
      rcases hi' with rfl | rfl | rfl | rfl | rfl | rfl | rfl | rfl
      · refine inv_op rfl (fun K hK => ?_)
        clear hdep hS
        go_simp
        exact hK.out _ _ ⟨v3, v4, _, v12, v13, v14, F1, F2, L3, L4, rfl, HS.out.go0⟩
      · obtain rfl := hS.a0 (hdep _ rfl ⟨0, .data⟩ (by simp) rfl)
        refine inv_op rfl (fun K hK => ?_)
        clear hdep hS
        go_simp
        refine (HCP2.out _ HS.out.below).mono ?_
        rintro e W' ⟨qa', ca', q', cap', F, rfl, h1, h2, h3, h4⟩
        exact hK.out _ _ ⟨v3, v4, _, _, v13, v14, F, F2, L3, L4, rfl, HS.out.go1 hdi h4 h1 h2 h3⟩
      · refine inv_op rfl (fun K hK => ?_)
        clear hdep hS
        go_simp
        exact hK.out _ _ ⟨v3, v4, v11, v12, _, v14, F1, F2, L3, L4, rfl, HS.out.go2⟩
      · obtain rfl := hS.a2 (hdep _ rfl ⟨2, .data⟩ (by simp) rfl)
        refine inv_op rfl (fun K hK => ?_)
        clear hdep hS
        go_simp
        refine (HCP2.out _ HS.out.below).mono ?_
        rintro e W' ⟨qa', ca', q', cap', F, rfl, h1, h2, h3, h4⟩
        exact hK.out _ _ ⟨v3, v4, v11, v12, _, _, F1, F, L3, L4, rfl, HS.out.go3 hdi h4 h1 h2 h3⟩
      · refine inv_op rfl (fun K hK => ?_)
        clear hdep hS
        go_simp
        exact hK.out _ _ ⟨_, v4, v11, v12, v13, v14, F1, F2, _, L4, rfl, HS.out.go4 hdi⟩
      · refine inv_op rfl (fun K hK => ?_)
        clear hdep hS
        go_simp
        exact hK.out _ _ ⟨v3, _, v11, v12, v13, v14, F1, F2, L3, _, rfl, HS.out.go5 hdi⟩
      · have d1 : d 1 = true := hdep _ rfl ⟨1, .data⟩ (by simp) rfl
        have d4 : d 4 = true := hdep _ rfl ⟨4, .data⟩ (by simp) rfl
        obtain ⟨qa1, ca1, q1, cap1, rfl, _⟩ := hS.a1 d1
        obtain ⟨B, rfl, rfl, cs, hB, hc, _⟩ := hS.a4 d4
        obtain rfl := hc hdi
        obtain ⟨y0, y1, y2, y3, y4, y5, y6, y7, y8, y9⟩ := row10 hB
        have hfz : ∀ o, W.frozen? ⟨B, o, none⟩ = false := fun o => by simp [World.frozen?, hB]
        refine inv_op rfl (fun K hK => ?_)
        have HB := Lib.hid hB
        clear hdep hS hB
        go_simp
        exact hK.out _ _ ⟨_, v4, v11, _, v13, v14, F1, F2, _, L4, rfl, HS.out.go6 rfl rfl HB.out rfl d1 d4⟩
      · have d1 : d 3 = true := hdep _ rfl ⟨3, .data⟩ (by simp) rfl
        have d4 : d 5 = true := hdep _ rfl ⟨5, .data⟩ (by simp) rfl
        obtain ⟨qa1, ca1, q1, cap1, rfl, _⟩ := hS.a3 d1
        obtain ⟨B, rfl, rfl, cs, hB, hc, _⟩ := hS.a5 d4
        obtain rfl := hc hdi
        obtain ⟨y0, y1, y2, y3, y4, y5, y6, y7, y8, y9⟩ := row10 hB
        have hfz : ∀ o, W.frozen? ⟨B, o, none⟩ = false := fun o => by simp [World.frozen?, hB]
        refine inv_op rfl (fun K hK => ?_)
        have HB := Lib.hid hB
        clear hdep hS hB
        go_simp
        exact hK.out _ _ ⟨v3, _, v11, v12, v13, _, F1, F2, L3, _, rfl, HS.out.go7 rfl rfl HB.out rfl d1 d4⟩
    · rintro d a W hall ⟨v3, v4, v11, v12, v13, v14, F1, F2, L3, L4, rfl, hS⟩
      obtain ⟨qa1, ca1, q1, cap1, rfl, ho1⟩ := hS.a1 (hall 1 (by simp))
      obtain ⟨qa2, ca2, q2, cap2, rfl, ho2⟩ := hS.a3 (hall 3 (by simp))
      obtain ⟨B3, rfl, rfl, cs3, hB3, _, hc3⟩ := hS.a4 (hall 4 (by simp))
      obtain ⟨B4, rfl, rfl, cs4, hB4, _, hc4⟩ := hS.a5 (hall 5 (by simp))
      obtain rfl := Value.agg.inj (hc3 (hall 6 (by simp)))
      obtain rfl := Value.agg.inj (hc4 (hall 7 (by simp)))
      clear hc3 hc4 hall
      obtain ⟨x0, x1, x2, x3, x4, x5, x6, x7, x8, x9⟩ := HCEL.out _ hS.below
      obtain ⟨y0, y1, y2, y3, y4, y5, y6, y7, y8, y9⟩ := row10 hB3
      have HS := Lib.hid hS
      go_wp2_with fail
      refine (HAK.out _ _ _ _ _ (HB2.out.trans (HS.out.below.mono HB2.out.size)) ho1.reads.1 ho1.reads.2).mono ?_
      rintro e W3 ⟨rfl, hb3⟩
      have hS3 := HS.out.go hb3
      have ho1' := ho1.keep (W' := W3) fun c hc => hb3.block c (HS.out.lies c (by simp [hc])).2
      have ho2' := ho2.keep (W' := W3) fun c hc => hb3.block c (HS.out.lies c (by simp [hc])).2
      have hB3' := (hb3.block _ (Array.getElem?_eq_some_iff.1 hB3).1).trans hB3
      have hB4' := (hb3.block _ (Array.getElem?_eq_some_iff.1 hB4).1).trans hB4
      clear hb3 x0 x1 x2 x3 x4 x5 x6 x7 x8 x9 y0 y1 y2 y3 y4 y5 y6 y7 y8 y9 ho1 ho2 hB3 hB4 HS
      obtain ⟨y0, y1, y2, y3, y4, y5, y6, y7, y8, y9⟩ := row10 hB3'
      obtain ⟨l1, m1, Fa, Fk, rfl, oa, ok⟩ := ho1'
      have hnd := hS3.nd
      have hli := hS3.lies
      have HSP := Lib.hid (tspoil_any (k.size + 1) h k qa1 ca1 q1 cap1 W3 Fa Fk (by omega) oa.1 ok (by
        rw [List.append_assoc, List.append_assoc, List.nodup_append] at hnd
        exact hnd.1) (fun c hc => (hli c (by simp at hc ⊢; grind)).2) oa.2.1 oa.2.2 HSZ.out.1 l1 m1 HSZ.out.2)
      have HS3 := Lib.hid hS3
      have HO2 := Lib.hid ho2'
      have HB4 := Lib.hid hB4'
      have HND3 := Lib.hid hnd
      have HLI3 := Lib.hid hli
      unfold tmV at HSP
      clear oa ok hnd hli hS3 ho2' hB4' hB3'
      go_wp2_with fail
      refine HSP.out.mono ?_
      rintro e W4 ⟨rfl, h4⟩
      have hb4 : Below w2.heap.size w2 W4 := spOut_below HS3.out.below (fun c hc => (HLI3.out c (by simp at hc ⊢; grind)).1) h4
      have ho2' := HO2.out.keep (W' := W4) fun c hc => h4.keep c (HLI3.out c (by simp [hc])).2 (fun hc1 => by
        have hn := HND3.out
        rw [List.append_assoc, List.append_assoc, List.nodup_append] at hn
        exact hn.2.2 c hc1 c (by simp [hc]) rfl)
      have hB4' := (h4.keep B4 (HLI3.out B4 (by simp)).2 (fun hc1 => by
        have hn := HND3.out
        rw [List.append_assoc, List.append_assoc, List.nodup_append] at hn
        exact hn.2.2 B4 hc1 B4 (by simp) rfl)).trans HB4.out
      have HB4w := Lib.hid hb4
      have HS4 := Lib.hid h4.size
      have HO4 := Lib.hid ho2'
      have HC4 := Lib.hid hB4'
      obtain ⟨x0, x1, x2, x3, x4, x5, x6, x7, x8, x9⟩ := HCEL.out _ hb4
      clear h4 hb4 ho2' hB4' y0 y1 y2 y3 y4 y5 y6 y7 y8 y9
      have hli4 : ∀ c ∈ F2 ++ [B4], w2.heap.size ≤ c ∧ c < W4.heap.size := fun c hc => by
        have h1 := HLI3.out c (by simp at hc ⊢; grind)
        exact ⟨h1.1, Nat.lt_of_lt_of_le h1.2 HS4.out⟩
      have HLI4 := Lib.hid hli4
      clear hli4
      go_wp2_with fail
      refine (HND.out _ (below_go2 HB2.out HB4w.out)).mono ?_
      rintro e W5 ⟨hb5, hcase⟩
      obtain ⟨qx, cx, qy, cy, Ga, G, rfl, l5, m5, oa5, ok5, nd5, li5⟩ : ∃ qx cx qy cy Ga G, e = Ending.returned (.tuple #[.agg (tmV h qx cx qy k.len cy), .bool true]) ∧ k.len ≤ cy ∧ cy ≤ maxLen ∧ (OwnF W5 qx h.ak Ga ∧ h.ak.len ≤ cx ∧ cx ≤ maxLen) ∧ TOwn W5 qy k G ∧ (Ga ++ G).Nodup ∧ (∀ c ∈ Ga ++ G, W4.heap.size ≤ c ∧ c < W5.heap.size) := by
        rcases hcase with ⟨i, t, hi, hl, hrest⟩ | ⟨hno, _⟩
        · have hi0 : i = 0 := by omega
          subst hi0
          simp only [List.getElem?_cons_zero, Option.some.injEq] at hl
          subst hl
          exact hrest
        · have := hno 0 rfl; simp at this
      have hb6 := below_box W5 (.cells (tmV h qx cx qy k.len cy) 43)
      have hx6 := World.alloc_heap_new W5 (.cells (tmV h qx cx qy k.len cy) 43)
      have HB46 := Lib.hid (below_then hb5 hb6)
      have HSP := Lib.hid (tspoil_any (k.size + 1) h k qx cx qy cy (W5.alloc (.cells (tmV h qx cx qy k.len cy) 43)) Ga G (by omega) (oa5.1.keep fun c hc => hb6.block c (li5 c (by simp [hc])).2) (ok5.keep fun c hc => hb6.block c (li5 c (by simp [hc])).2) nd5
        (fun c hc => Nat.lt_of_lt_of_le (li5 c hc).2 hb6.size) oa5.2.1 oa5.2.2 HSZ.out.1 l5 m5 HSZ.out.2)
      have HLI5 := Lib.hid li5
      unfold tmV at HSP hx6 HB46
      clear hcase oa5 ok5 nd5 li5 hb6 hb5 x0 x1 x2 x3 x4 x5 x6 x7 x8 x9 l5 m5
      obtain ⟨z0, z1, z2, z3, z4, z5, z6, z7, z8, z9⟩ := row10 hx6
      clear hx6
      unfold tmV
      go_wp2_with fail
      refine HSP.out.mono ?_
      rintro e W7 ⟨rfl, h7⟩
      have hb7 : Below W4.heap.size W4 W7 := spOut_below HB46.out (fun c hc => (HLI5.out c hc).1) h7
      have ho2' := HO4.out.keep (W' := W7) fun c hc => hb7.block c (HLI4.out c (by simp [hc])).2
      have hB4' := (hb7.block _ (HLI4.out B4 (by simp)).2).trans HC4.out
      have hbw7 := HB4w.out.trans (hb7.mono HB4w.out.size)
      have HBW7 := Lib.hid (below_go2 HB2.out hbw7)
      obtain ⟨x0, x1, x2, x3, x4, x5, x6, x7, x8, x9⟩ := HCEL.out _ hbw7
      obtain ⟨y0, y1, y2, y3, y4, y5, y6, y7, y8, y9⟩ := row10 hB4'
      have HO7 := Lib.hid ho2'
      clear h7 hb7 ho2' hB4' hbw7 z0 z1 z2 z3 z4 z5 z6 z7 z8 z9
      go_wp2_with fail
      refine (HAK.out _ _ _ _ _ HBW7.out HO7.out.reads.1 HO7.out.reads.2).mono ?_
      rintro e W8 ⟨rfl, hb8⟩
      have HB8 := Lib.hid (below_go2 HBW7.out hb8)
      clear hb8
      go_wp2
      go_ret
      exact ⟨rfl, HB8.out⟩
end Go.Proofs.Ytcjhgefkbnbmnaa
