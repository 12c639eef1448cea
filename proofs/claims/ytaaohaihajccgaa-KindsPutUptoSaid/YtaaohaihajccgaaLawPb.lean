/- KindsPut: the law's walk, case by case. -/
import Derived.Test.YtaaohaihajccgaaLawPh
namespace Go.Proofs.Ytaaohaihajccgaa
open Go.RowKit LM
set_option linter.unusedVariables false

set_option maxRecDepth 100000 in
set_option maxHeartbeats 8000000 in
theorem law_put2 (h : Hd) (k : Fo) (q : Option Addr) (cap : Nat) (n : Int) (H : Hd) (K : Fo) (Q : Option Addr) (C : Nat) (w : World) (ht : TyIs w h k q cap) (hT : TyIs w H K Q C) (hsz2 : 3 + k.size + K.size ≤ 1099511627776) (hr1 : rightB h k 1 = true) (hs1 : rightB H K 1 = false) (hs2 : rightB H K 2 = true) :
    Calls Try.prog 7 #[.agg #[.int .u8 h.op, .string h.name, .int .i64 h.n, .slice q k.len cap], .int .i64 n, .agg #[.int .u8 H.op, .string H.name, .int .i64 H.n, .slice Q K.len C]] w fun e w' => e = .returned (.bool true) ∧ Below w.heap.size w w' := by
  have HT1 := Lib.hid ht
  have HT2 := Lib.hid hT
  have HS := Lib.hid (Box2.start w h k q cap H K Q C)
  have HM1 := Lib.hid fun w' (hb : Below w.heap.size w w') => many_any h k q cap w' ht.sz (ht.sl.below hb)
  have HM2 := Lib.hid fun w' (hb : Below w.heap.size w w') => many_any H K Q C w' hT.sz (hT.sl.below hb)
  have HP := Lib.hid fun w' (hb : Below w.heap.size w w') => Put_any h k q cap n H K Q C w' ht.hh (ht.sl.below hb) ht.hk ht.sz hT.hh (hT.sl.below hb) hT.hk hT.sz
  have HA1 := Lib.hid fun w' (hb : Below w.heap.size w w') => refRight_any h k q cap w' ht.hh ht.hk ht.sz (ht.sl.below hb)
  have HA2 := Lib.hid fun w' (hb : Below w.heap.size w w') => refRow_any h k q cap w' ht.hh ht.hk ht.sz (ht.sl.below hb)
  have HB1 := Lib.hid fun w' (hb : Below w.heap.size w w') => refRight_any H K Q C w' hT.hh hT.hk hT.sz (hT.sl.below hb)
  have HB2 := Lib.hid fun w' (hb : Below w.heap.size w w') => refRow_any H K Q C w' hT.hh hT.hk hT.sz (hT.sl.below hb)
  have HQ1 := Lib.hid fun w' (hb : Below w.heap.size w w') => refPut_any 7 n H K Q C (k.size + 1) h k q cap w' (by omega) ht.sz (ht.sl.below hb) (hT.sl.below hb)
  have HQ2 := Lib.hid fun w' (hb : Below w.heap.size w w') => refPut_any 10 n H K Q C (k.size + 1) h k q cap w' (by omega) ht.sz (ht.sl.below hb) (hT.sl.below hb)
  have HOK := Lib.hid (putTree_ok (n := n) ht.hh ht.hk hT.hh hT.hk)
  have HSZ := Lib.hid hsz2
  have HPT : Hid (putTree n H K h k = putT 10 n H K h k) := Lib.hid (by unfold putTree riB; rw [hr1, hs1, hs2] <;> rfl)
  rw [hr1] at HA1
  rw [hs1] at HB1
  rw [hs2] at HB2
  clear ht hT hsz2 hr1 hs1 hs2
  go_enter Try.func7, Try.ntmps7
  go_wp2_with fail
  refine (kalive_any _).mono ?_
  rintro e w1 ⟨rfl, hb1⟩
  have hS1 := HS.out.go hb1
  have HS1 := Lib.hid hS1
  obtain ⟨a0, a1, a2, a3, _⟩ := row4 hS1.b0
  obtain ⟨d0, d1, d2, d3, _⟩ := row4 hS1.b1
  clear hS1 hb1
  go_wp2_with fail
  refine (HM1.out _ HS1.out.below).mono ?_
  rintro e w2 ⟨rfl, hb2⟩
  have hS2 := HS1.out.go hb2
  have HS2 := Lib.hid hS2
  obtain ⟨a0, a1, a2, a3, _⟩ := row4 hS2.b0
  obtain ⟨d0, d1, d2, d3, _⟩ := row4 hS2.b1
  clear hS2 hb2
  by_cases hN : 400 < 1 + k.size
  · have hN' : decide (400 < 1 + k.size) = true := decide_eq_true hN
    have HBL := Lib.hid HS2.out.below
    go_wp2_with fail
    go_ret
    exact ⟨rfl, HBL.out⟩
  have hN' : decide (400 < 1 + k.size) = false := decide_eq_false hN
  rw [hN']
  clear hN hN'
  go_wp2_with fail
  refine (HM2.out _ HS2.out.below).mono ?_
  rintro e w3 ⟨rfl, hb3⟩
  have hS3 := HS2.out.go hb3
  have HS3 := Lib.hid hS3
  obtain ⟨a0, a1, a2, a3, _⟩ := row4 hS3.b0
  obtain ⟨d0, d1, d2, d3, _⟩ := row4 hS3.b1
  clear hS3 hb3
  by_cases hN : 400 < 1 + K.size
  · have hN' : decide (400 < 1 + K.size) = true := decide_eq_true hN
    rw [hN']
    clear hN hN'
    go_wp2_with fail
    go_ret
    exact ⟨rfl, HS3.out.below⟩
  have hN' : decide (400 < 1 + K.size) = false := decide_eq_false hN
  rw [hN']
  clear hN hN'
  go_wp2_with fail
  refine (HP.out _ HS3.out.below).mono ?_
  rintro e w4 ⟨qx, cx, rfl, hsx, hb4⟩
  generalize putTree n H K h k = X at *
  have HBL4 := Lib.hid (HS3.out.go hb4)
  have HBX := Lib.hid (below_box w4 (.cells #[.int .u8 X.1.op, .string X.1.name, .int .i64 X.1.n, .slice qx X.2.len cx] 25))
  have HB5 := Lib.hid (HBL4.out.go HBX.out)
  have HX5 : Hid (XBox w4.heap.size X qx cx (w4.alloc (.cells #[.int .u8 X.1.op, .string X.1.name, .int .i64 X.1.n, .slice qx X.2.len cx] 25))) := Lib.hid ⟨World.alloc_heap_new w4 _, hsx.below HBX.out⟩
  obtain ⟨a0, a1, a2, a3, _⟩ := row4 HBL4.out.b0
  obtain ⟨d0, d1, d2, d3, _⟩ := row4 HBL4.out.b1
  have l0 := (Array.getElem?_eq_some_iff.1 HBL4.out.b0).1
  have l1 := (Array.getElem?_eq_some_iff.1 HBL4.out.b1).1
  clear hsx hb4
  go_wp2_with fail
  refine (HA1.out _ HB5.out.below).mono ?_
  rintro e w6 ⟨rfl, hb⟩
  have HB6 := Lib.hid (HB5.out.go hb)
  have HX6 := Lib.hid (HX5.out.go hb)
  clear hb
  obtain ⟨a0, a1, a2, a3, _⟩ := row4 HB6.out.b0
  obtain ⟨d0, d1, d2, d3, _⟩ := row4 HB6.out.b1
  have l0 := (Array.getElem?_eq_some_iff.1 HB6.out.b0).1
  have l1 := (Array.getElem?_eq_some_iff.1 HB6.out.b1).1
  have lx := (Array.getElem?_eq_some_iff.1 HX6.out.b).1
  obtain ⟨x0, x1, x2, x3, _⟩ := row4 HX6.out.b
  have HZ10 := Lib.hid (below_box w6 (.cells #[.int .u8 h.op, .string h.name, .int .i64 h.n, .slice q k.len cap] 25))
  have HY10 := Lib.hid (World.alloc_heap_new w6 (.cells #[.int .u8 h.op, .string h.name, .int .i64 h.n, .slice q k.len cap] 25))
  go_wp2_with fail
  refine (HB1.out _ (below_go3 HB6.out.below HZ10.out)).mono ?_
  rintro e w11 ⟨rfl, hb⟩
  have HZ11 := Lib.hid (below_go3 HZ10.out hb)
  have HY11 := Lib.hid ((hb.block _ (Array.getElem?_eq_some_iff.1 HY10.out).1).trans HY10.out)
  clear hb
  obtain ⟨a0, a1, a2, a3, _⟩ := row4 (HB6.out.go HZ11.out).b0
  obtain ⟨d0, d1, d2, d3, _⟩ := row4 (HB6.out.go HZ11.out).b1
  obtain ⟨y0, y1, y2, y3, z0, z1, z2, z3⟩ := row4 HY11.out
  go_wp2_with fail
  refine (HB2.out _ (below_go3 HB6.out.below HZ11.out)).mono ?_
  rintro e w12 ⟨rfl, hb⟩
  have HZ12 := Lib.hid (below_go3 HZ11.out hb)
  have HY12 := Lib.hid ((hb.block _ (Array.getElem?_eq_some_iff.1 HY11.out).1).trans HY11.out)
  clear hb
  obtain ⟨a0, a1, a2, a3, _⟩ := row4 (HB6.out.go HZ12.out).b0
  obtain ⟨d0, d1, d2, d3, _⟩ := row4 (HB6.out.go HZ12.out).b1
  obtain ⟨y0, y1, y2, y3, z0, z1, z2, z3⟩ := row4 HY12.out
  go_wp2_with fail
  refine (HQ2.out _ (below_go3 HB6.out.below HZ12.out)).mono ?_
  rw [← HPT.out]
  rintro e w13 ⟨qw, cw, rfl, hag, hb⟩
  have HZ13 := Lib.hid (below_go3 HZ12.out hb)
  have HY13 := Lib.hid ((hb.block _ (Array.getElem?_eq_some_iff.1 HY12.out).1).trans HY12.out)
  have HY14 := Lib.hid (set4_row HY13.out (.int .u8 X.1.op) (.string X.1.name) (.int .i64 X.1.n) (.slice qw X.2.len cw))
  have hgr := set4_grown w13 w6.heap.size (.int .u8 X.1.op) (.string X.1.name) (.int .i64 X.1.n) (.slice qw X.2.len cw)
  have HZ14 : Hid (Below w6.heap.size w6 (World.set4 w13 w6.heap.size (.int .u8 X.1.op) (.string X.1.name) (.int .i64 X.1.n) (.slice qw X.2.len cw))) := Lib.hid (HZ13.out.grown hgr HZ13.out.size (fun r e => by have := Option.some.inj e; omega))
  have HW14 : Hid (SlF (World.set4 w13 w6.heap.size (.int .u8 X.1.op) (.string X.1.name) (.int .i64 X.1.n) (.slice qw X.2.len cw)) qw cw X.2) := Lib.hid (hag _ (fun b h1 h2 => hgr.block b h2 (fun e => by have := Option.some.inj e; have := (Array.getElem?_eq_some_iff.1 HY12.out).1; omega)) (HT2.out.sl.below (below_go3 HB6.out.below HZ14.out)))
  clear hb hag hgr
  obtain ⟨a0, a1, a2, a3, _⟩ := row4 (HB6.out.go HZ13.out).b0
  obtain ⟨d0, d1, d2, d3, _⟩ := row4 (HB6.out.go HZ13.out).b1
  obtain ⟨y0, y1, y2, y3, z0, z1, z2, z3⟩ := row4 HY13.out
  go_wp2_with fail
  have HWS := Lib.hid (HW14.out.below (below_box ((((w13.setCell ⟨w6.heap.size, 0, none⟩ (.int .u8 X.1.op)).setCell ⟨w6.heap.size, 1, none⟩ (.string X.1.name)).setCell ⟨w6.heap.size, 2, none⟩ (.int .i64 X.1.n)).setCell ⟨w6.heap.size, 3, none⟩ (.slice qw X.2.len cw)) (.cells #[.int .u8 h.op, .string h.name, .int .i64 h.n, .slice q k.len cap, .int .u8 H.op, .string H.name, .int .i64 H.n, .slice Q K.len C] 25)))
  obtain ⟨wb, hwb⟩ : ∃ wb, wb = World.alloc ((((w13.setCell ⟨w6.heap.size, 0, none⟩ (.int .u8 X.1.op)).setCell ⟨w6.heap.size, 1, none⟩ (.string X.1.name)).setCell ⟨w6.heap.size, 2, none⟩ (.int .i64 X.1.n)).setCell ⟨w6.heap.size, 3, none⟩ (.slice qw X.2.len cw)) (.cells #[.int .u8 h.op, .string h.name, .int .i64 h.n, .slice q k.len cap, .int .u8 H.op, .string H.name, .int .i64 H.n, .slice Q K.len C] 25) := ⟨_, rfl⟩
  have HBW : Hid (Below w6.heap.size w6 wb) := Lib.hid (by rw [hwb]; exact below_go3 HZ14.out (below_box _ _))
  have HBWw : Hid (Below w.heap.size w wb) := Lib.hid (below_go3 HB6.out.below HBW.out)
  have HR1 := Lib.hid (HB6.out.go HBW.out)
  have HR2 := Lib.hid (HX6.out.go HBW.out)
  have HR3 : Hid (wb.heap[w6.heap.size]? = some (.cells #[.int .u8 X.1.op, .string X.1.name, .int .i64 X.1.n, .slice qw X.2.len cw] 25 (0, 0))) := Lib.hid (by rw [hwb]; exact ((below_box ((((w13.setCell ⟨w6.heap.size, 0, none⟩ (.int .u8 X.1.op)).setCell ⟨w6.heap.size, 1, none⟩ (.string X.1.name)).setCell ⟨w6.heap.size, 2, none⟩ (.int .i64 X.1.n)).setCell ⟨w6.heap.size, 3, none⟩ (.slice qw X.2.len cw)) _).block _ (Array.getElem?_eq_some_iff.1 HY14.out).1).trans HY14.out)
  have hgs : (World.heap ((((w13.setCell ⟨w6.heap.size, 0, none⟩ (.int .u8 X.1.op)).setCell ⟨w6.heap.size, 1, none⟩ (.string X.1.name)).setCell ⟨w6.heap.size, 2, none⟩ (.int .i64 X.1.n)).setCell ⟨w6.heap.size, 3, none⟩ (.slice qw X.2.len cw))).size = w13.heap.size := by simp
  have HTWO : Hid (SlF wb (some ⟨w13.heap.size, 0, none⟩) 2 (.cons h k (.cons H K .nil))) := Lib.hid (by
    have hnew := World.alloc_heap_new ((((w13.setCell ⟨w6.heap.size, 0, none⟩ (.int .u8 X.1.op)).setCell ⟨w6.heap.size, 1, none⟩ (.string X.1.name)).setCell ⟨w6.heap.size, 2, none⟩ (.int .i64 X.1.n)).setCell ⟨w6.heap.size, 3, none⟩ (.slice qw X.2.len cw)) (.cells #[.int .u8 h.op, .string h.name, .int .i64 h.n, .slice q k.len cap, .int .u8 H.op, .string H.name, .int .i64 H.n, .slice Q K.len C] 25)
    rw [← hwb] at hnew
    rw [hgs] at hnew
    exact two_fo hnew (HT1.out.sl.below HBWw.out) (HT2.out.sl.below HBWw.out))
  have HONE : Hid (SlF wb (some ⟨w13.heap.size, 0, none⟩) 2 (.cons h k .nil)) := Lib.hid (by
    obtain ⟨b, o, e, q1, c1, h1, h2, _⟩ := HTWO.out.at_ (by simp [Fo.len])
    exact ⟨by simp [Fo.len], HTWO.out.cm, fun _ => ⟨b, o, e, q1, c1, h1, h2, trivial⟩⟩)
  have GX := Lib.hid fun w' (hb : Below wb.heap.size wb w') => (Alike_yes X.1 X.2 qx qw cx cw w' HOK.out.1 HOK.out.2 (HR2.out.s.below hb) ((by rw [hwb]; exact HWS.out : SlF wb qw cw X.2).below hb)).mono fun e w2 hh => And.intro hh.1 (below_go3 hb hh.2)
  have okF : (Fo.cons h k (.cons H K .nil)).ok := ⟨HT1.out.hh, HT1.out.hk, HT2.out.hh, HT2.out.hk, trivial⟩
  have ok1 : (Fo.cons h k .nil).ok := ⟨HT1.out.hh, HT1.out.hk, trivial⟩
  have GF : Hid (∀ w', Below wb.heap.size wb w' → Calls Try.prog 37 #[.agg #[.int .u8 h.op, .string h.name, .int .i64 h.n, .slice q k.len cap], .agg #[.int .u8 H.op, .string H.name, .int .i64 H.n, .slice Q K.len C]] w' fun e w2 => ∃ q' c', e = .returned (.agg #[.int .u8 4, .string ⟨#[]⟩, .int .i64 0, .slice q' 2 c']) ∧ Hid (SlF w2 q' c' (.cons h k (.cons H K .nil))) ∧ Below wb.heap.size wb w2) := Lib.hid fun w' hb =>
    (Fun_any h k q cap H K Q C w' HT1.out.hh ((HT1.out.sl.below HBWw.out).below hb) HT1.out.hk HT2.out.hh ((HT2.out.sl.below HBWw.out).below hb) HT2.out.hk HSZ.out).mono fun e w2 ⟨q', c', he, hs, hb2⟩ => ⟨q', c', he, Lib.hid hs, below_go3 hb hb2⟩
  have GFA : Hid (∀ w' q' c', Hid (SlF w' q' c' (.cons h k (.cons H K .nil))) → Below wb.heap.size wb w' → Calls Try.prog 20 #[.agg #[.int .u8 4, .string ⟨#[]⟩, .int .i64 0, .slice q' 2 c'], .agg #[.int .u8 4, .string ⟨#[]⟩, .int .i64 0, .slice (some ⟨w13.heap.size, 0, none⟩) 2 2]] w' fun e w2 => e = .returned (.bool true) ∧ Below wb.heap.size wb w2) := Lib.hid fun w' q' c' hs hb =>
    (Alike_yes ⟨4, ⟨#[]⟩, 0⟩ (.cons h k (.cons H K .nil)) q' _ c' 2 w' (hd_ok (by omega) (by omega) (by decide)) okF hs.out (HTWO.out.below hb)).mono fun e w2 hh => And.intro hh.1 (below_go3 hb hh.2)
  have GR : Hid (∀ w', Below wb.heap.size wb w' → Calls Try.prog 38 #[.agg #[.int .u8 h.op, .string h.name, .int .i64 h.n, .slice q k.len cap]] w' fun e w2 => ∃ q' c', e = .returned (.agg #[.int .u8 5, .string ⟨#[]⟩, .int .i64 0, .slice q' 1 c']) ∧ Hid (SlF w2 q' c' (.cons h k .nil)) ∧ Below wb.heap.size wb w2) := Lib.hid fun w' hb =>
    (Rec_any h k q cap w' HT1.out.hh ((HT1.out.sl.below HBWw.out).below hb) HT1.out.hk (by have := HSZ.out; omega)).mono fun e w2 ⟨q', c', he, hs, hb2⟩ => ⟨q', c', he, Lib.hid hs, below_go3 hb hb2⟩
  have GRA : Hid (∀ w' q' c', Hid (SlF w' q' c' (.cons h k .nil)) → Below wb.heap.size wb w' → Calls Try.prog 20 #[.agg #[.int .u8 5, .string ⟨#[]⟩, .int .i64 0, .slice q' 1 c'], .agg #[.int .u8 5, .string ⟨#[]⟩, .int .i64 0, .slice (some ⟨w13.heap.size, 0, none⟩) 1 2]] w' fun e w2 => e = .returned (.bool true) ∧ Below wb.heap.size wb w2) := Lib.hid fun w' q' c' hs hb =>
    (Alike_yes ⟨5, ⟨#[]⟩, 0⟩ (.cons h k .nil) q' _ c' 2 w' (hd_ok (by omega) (by omega) (by decide)) ok1 hs.out (HONE.out.below hb)).mono fun e w2 hh => And.intro hh.1 (below_go3 hb hh.2)
  have GV : Hid (∀ w', Below wb.heap.size wb w' → Calls Try.prog 39 #[.agg #[.int .u8 h.op, .string h.name, .int .i64 h.n, .slice q k.len cap]] w' fun e w2 => ∃ q' c', e = .returned (.agg #[.int .u8 6, .string ⟨#[]⟩, .int .i64 0, .slice q' 1 c']) ∧ Hid (SlF w2 q' c' (.cons h k .nil)) ∧ Below wb.heap.size wb w2) := Lib.hid fun w' hb =>
    (Vnt_any h k q cap w' HT1.out.hh ((HT1.out.sl.below HBWw.out).below hb) HT1.out.hk (by have := HSZ.out; omega)).mono fun e w2 ⟨q', c', he, hs, hb2⟩ => ⟨q', c', he, Lib.hid hs, below_go3 hb hb2⟩
  have GVA : Hid (∀ w' q' c', Hid (SlF w' q' c' (.cons h k .nil)) → Below wb.heap.size wb w' → Calls Try.prog 20 #[.agg #[.int .u8 6, .string ⟨#[]⟩, .int .i64 0, .slice q' 1 c'], .agg #[.int .u8 6, .string ⟨#[]⟩, .int .i64 0, .slice (some ⟨w13.heap.size, 0, none⟩) 1 2]] w' fun e w2 => e = .returned (.bool true) ∧ Below wb.heap.size wb w2) := Lib.hid fun w' q' c' hs hb =>
    (Alike_yes ⟨6, ⟨#[]⟩, 0⟩ (.cons h k .nil) q' _ c' 2 w' (hd_ok (by omega) (by omega) (by decide)) ok1 hs.out (HONE.out.below hb)).mono fun e w2 hh => And.intro hh.1 (below_go3 hb hh.2)
  have GI := Lib.hid fun w' (hb : Below wb.heap.size wb w') => (Int_any w').mono fun e w2 hh => And.intro hh.1 (below_go3 hb hh.2)
  have GIA : Hid (∀ w', Below wb.heap.size wb w' → Calls Try.prog 20 #[.agg #[.int .u8 1, .string ⟨#[]⟩, .int .i64 0, .slice none 0 0], .agg #[.int .u8 1, .string ⟨#[]⟩, .int .i64 0, .slice none 0 0]] w' fun e w2 => e = .returned (.bool true) ∧ Below wb.heap.size wb w2) := Lib.hid fun w' hb =>
    (Alike_yes ⟨1, ⟨#[]⟩, 0⟩ .nil none none 0 0 w' (hd_ok (by omega) (by omega) (by decide)) trivial ⟨Nat.le_refl _, by unfold maxLen; omega, fun h0 => by simp [Fo.len] at h0⟩ ⟨Nat.le_refl _, by unfold maxLen; omega, fun h0 => by simp [Fo.len] at h0⟩).mono fun e w2 hh => And.intro hh.1 (below_go3 hb hh.2)
  have GB := Lib.hid fun w' (hb : Below wb.heap.size wb w') => (Bool_any w').mono fun e w2 hh => And.intro hh.1 (below_go3 hb hh.2)
  have GBA : Hid (∀ w', Below wb.heap.size wb w' → Calls Try.prog 20 #[.agg #[.int .u8 2, .string ⟨#[]⟩, .int .i64 0, .slice none 0 0], .agg #[.int .u8 2, .string ⟨#[]⟩, .int .i64 0, .slice none 0 0]] w' fun e w2 => e = .returned (.bool true) ∧ Below wb.heap.size wb w2) := Lib.hid fun w' hb =>
    (Alike_yes ⟨2, ⟨#[]⟩, 0⟩ .nil none none 0 0 w' (hd_ok (by omega) (by omega) (by decide)) trivial ⟨Nat.le_refl _, by unfold maxLen; omega, fun h0 => by simp [Fo.len] at h0⟩ ⟨Nat.le_refl _, by unfold maxLen; omega, fun h0 => by simp [Fo.len] at h0⟩).mono fun e w2 hh => And.intro hh.1 (below_go3 hb hh.2)
  have GD := Lib.hid fun w' (hb : Below wb.heap.size wb w') => (Dyn_any w').mono fun e w2 hh => And.intro hh.1 (below_go3 hb hh.2)
  have GDA : Hid (∀ w', Below wb.heap.size wb w' → Calls Try.prog 20 #[.agg #[.int .u8 3, .string ⟨#[]⟩, .int .i64 0, .slice none 0 0], .agg #[.int .u8 3, .string ⟨#[]⟩, .int .i64 0, .slice none 0 0]] w' fun e w2 => e = .returned (.bool true) ∧ Below wb.heap.size wb w2) := Lib.hid fun w' hb =>
    (Alike_yes ⟨3, ⟨#[]⟩, 0⟩ .nil none none 0 0 w' (hd_ok (by omega) (by omega) (by decide)) trivial ⟨Nat.le_refl _, by unfold maxLen; omega, fun h0 => by simp [Fo.len] at h0⟩ ⟨Nat.le_refl _, by unfold maxLen; omega, fun h0 => by simp [Fo.len] at h0⟩).mono fun e w2 hh => And.intro hh.1 (below_go3 hb hh.2)
  have HJ : Hid (∀ w', Below wb.heap.size wb w' → Below wb.heap.size wb w' ∧ w'.cell? ⟨w.heap.size, 0, none⟩ = some (.int .u8 h.op) ∧ w'.cell? ⟨w.heap.size, 1, none⟩ = some (.string h.name) ∧ w'.cell? ⟨w.heap.size, 2, none⟩ = some (.int .i64 h.n) ∧ w'.cell? ⟨w.heap.size, 3, none⟩ = some (.slice q k.len cap) ∧ w'.cell? ⟨w.heap.size + 1, 0, none⟩ = some (.int .u8 H.op) ∧ w'.cell? ⟨w.heap.size + 1, 1, none⟩ = some (.string H.name) ∧ w'.cell? ⟨w.heap.size + 1, 2, none⟩ = some (.int .i64 H.n) ∧ w'.cell? ⟨w.heap.size + 1, 3, none⟩ = some (.slice Q K.len C) ∧ w'.cell? ⟨w4.heap.size, 0, none⟩ = some (.int .u8 X.1.op) ∧ w'.cell? ⟨w4.heap.size, 1, none⟩ = some (.string X.1.name) ∧ w'.cell? ⟨w4.heap.size, 2, none⟩ = some (.int .i64 X.1.n) ∧ w'.cell? ⟨w4.heap.size, 3, none⟩ = some (.slice qx X.2.len cx) ∧ w'.cell? ⟨w6.heap.size, 0, none⟩ = some (.int .u8 X.1.op) ∧ w'.cell? ⟨w6.heap.size, 1, none⟩ = some (.string X.1.name) ∧ w'.cell? ⟨w6.heap.size, 2, none⟩ = some (.int .i64 X.1.n) ∧ w'.cell? ⟨w6.heap.size, 3, none⟩ = some (.slice qw X.2.len cw)) := Lib.hid fun w' hb => by
    have k1 := HR1.out.go hb
    obtain ⟨p0, p1, p2, p3, _⟩ := row4 k1.b0
    obtain ⟨p4, p5, p6, p7, _⟩ := row4 k1.b1
    obtain ⟨p8, p9, p10, p11, _⟩ := row4 (HR2.out.go hb).b
    obtain ⟨p12, p13, p14, p15, _⟩ := row4 ((hb.block _ (Array.getElem?_eq_some_iff.1 HR3.out).1).trans HR3.out)
    exact ⟨hb, p0, p1, p2, p3, p4, p5, p6, p7, p8, p9, p10, p11, p12, p13, p14, p15⟩
  rw [← hwb]
  clear hwb hgs okF ok1 HR1 HR2 HR3 HTWO HONE
  go_region_held3 (fun w' => Below wb.heap.size wb w' ∧ w'.cell? ⟨w.heap.size, 0, none⟩ = some (.int .u8 h.op) ∧ w'.cell? ⟨w.heap.size, 1, none⟩ = some (.string h.name) ∧ w'.cell? ⟨w.heap.size, 2, none⟩ = some (.int .i64 h.n) ∧ w'.cell? ⟨w.heap.size, 3, none⟩ = some (.slice q k.len cap) ∧ w'.cell? ⟨w.heap.size + 1, 0, none⟩ = some (.int .u8 H.op) ∧ w'.cell? ⟨w.heap.size + 1, 1, none⟩ = some (.string H.name) ∧ w'.cell? ⟨w.heap.size + 1, 2, none⟩ = some (.int .i64 H.n) ∧ w'.cell? ⟨w.heap.size + 1, 3, none⟩ = some (.slice Q K.len C) ∧ w'.cell? ⟨w4.heap.size, 0, none⟩ = some (.int .u8 X.1.op) ∧ w'.cell? ⟨w4.heap.size, 1, none⟩ = some (.string X.1.name) ∧ w'.cell? ⟨w4.heap.size, 2, none⟩ = some (.int .i64 X.1.n) ∧ w'.cell? ⟨w4.heap.size, 3, none⟩ = some (.slice qx X.2.len cx) ∧ w'.cell? ⟨w6.heap.size, 0, none⟩ = some (.int .u8 X.1.op) ∧ w'.cell? ⟨w6.heap.size, 1, none⟩ = some (.string X.1.name) ∧ w'.cell? ⟨w6.heap.size, 2, none⟩ = some (.int .i64 X.1.n) ∧ w'.cell? ⟨w6.heap.size, 3, none⟩ = some (.slice qw X.2.len cw)) ((refine HJ.out _ ?_; (first | assumption | exact (below_drewN (Below.refl _ _) _).drew | exact below_drewN (Below.refl _ _) _ | exact (Below.refl _ _).drew | exact Below.refl _ _ | (go_split_ands; assumption)))) (first | (go_at_call 37; (with_reducible refine (GF.out _ ?_).mono ?_); (first | assumption | exact (below_drewN (Below.refl _ _) _).drew | exact below_drewN (Below.refl _ _) _ | exact (Below.refl _ _).drew | exact Below.refl _ _ | (go_split_ands; assumption)); rintro e w21 ⟨q21, c21, rfl, hs21, hc21⟩) | (go_at_call 38; (with_reducible refine (GR.out _ ?_).mono ?_); (first | assumption | exact (below_drewN (Below.refl _ _) _).drew | exact below_drewN (Below.refl _ _) _ | exact (Below.refl _ _).drew | exact Below.refl _ _ | (go_split_ands; assumption)); rintro e w22 ⟨q22, c22, rfl, hs22, hc22⟩) | (go_at_call 39; (with_reducible refine (GV.out _ ?_).mono ?_); (first | assumption | exact (below_drewN (Below.refl _ _) _).drew | exact below_drewN (Below.refl _ _) _ | exact (Below.refl _ _).drew | exact Below.refl _ _ | (go_split_ands; assumption)); rintro e w23 ⟨q23, c23, rfl, hs23, hc23⟩) | (go_at_call 40; (with_reducible refine (GI.out _ ?_).mono ?_); (first | assumption | exact (below_drewN (Below.refl _ _) _).drew | exact below_drewN (Below.refl _ _) _ | exact (Below.refl _ _).drew | exact Below.refl _ _ | (go_split_ands; assumption)); rintro e w24 ⟨rfl, hc24⟩) | (go_at_call 41; (with_reducible refine (GB.out _ ?_).mono ?_); (first | assumption | exact (below_drewN (Below.refl _ _) _).drew | exact below_drewN (Below.refl _ _) _ | exact (Below.refl _ _).drew | exact Below.refl _ _ | (go_split_ands; assumption)); rintro e w25 ⟨rfl, hc25⟩) | (go_at_call 42; (with_reducible refine (GD.out _ ?_).mono ?_); (first | assumption | exact (below_drewN (Below.refl _ _) _).drew | exact below_drewN (Below.refl _ _) _ | exact (Below.refl _ _).drew | exact Below.refl _ _ | (go_split_ands; assumption)); rintro e w26 ⟨rfl, hc26⟩) | (go_at_call 20; (with_reducible refine (GX.out _ ?_).mono ?_); (first | assumption | exact (below_drewN (Below.refl _ _) _).drew | exact below_drewN (Below.refl _ _) _ | exact (Below.refl _ _).drew | exact Below.refl _ _ | (go_split_ands; assumption)); rintro e w27 ⟨rfl, hc27⟩) | (go_at_call 20; (with_reducible refine (GFA.out _ _ _ ?_ ?_).mono ?_); assumption; (first | assumption | exact (below_drewN (Below.refl _ _) _).drew | exact below_drewN (Below.refl _ _) _ | exact (Below.refl _ _).drew | exact Below.refl _ _ | (go_split_ands; assumption)); rintro e w28 ⟨rfl, hc28⟩) | (go_at_call 20; (with_reducible refine (GRA.out _ _ _ ?_ ?_).mono ?_); assumption; (first | assumption | exact (below_drewN (Below.refl _ _) _).drew | exact below_drewN (Below.refl _ _) _ | exact (Below.refl _ _).drew | exact Below.refl _ _ | (go_split_ands; assumption)); rintro e w29 ⟨rfl, hc29⟩) | (go_at_call 20; (with_reducible refine (GVA.out _ _ _ ?_ ?_).mono ?_); assumption; (first | assumption | exact (below_drewN (Below.refl _ _) _).drew | exact below_drewN (Below.refl _ _) _ | exact (Below.refl _ _).drew | exact Below.refl _ _ | (go_split_ands; assumption)); rintro e w30 ⟨rfl, hc30⟩) | (go_at_call 20; (with_reducible refine (GIA.out _ ?_).mono ?_); (first | assumption | exact (below_drewN (Below.refl _ _) _).drew | exact below_drewN (Below.refl _ _) _ | exact (Below.refl _ _).drew | exact Below.refl _ _ | (go_split_ands; assumption)); rintro e w31 ⟨rfl, hc31⟩) | (go_at_call 20; (with_reducible refine (GBA.out _ ?_).mono ?_); (first | assumption | exact (below_drewN (Below.refl _ _) _).drew | exact below_drewN (Below.refl _ _) _ | exact (Below.refl _ _).drew | exact Below.refl _ _ | (go_split_ands; assumption)); rintro e w32 ⟨rfl, hc32⟩) | (go_at_call 20; (with_reducible refine (GDA.out _ ?_).mono ?_); (first | assumption | exact (below_drewN (Below.refl _ _) _).drew | exact below_drewN (Below.refl _ _) _ | exact (Below.refl _ _).drew | exact Below.refl _ _ | (go_split_ands; assumption)); rintro e w33 ⟨rfl, hc33⟩))
  rename_i hH
  have HBH := Lib.hid hH.1
  clear hH
  go_wp2
  go_ret
  exact ⟨rfl, below_go3 HBWw.out HBH.out⟩
set_option maxRecDepth 100000 in
set_option maxHeartbeats 8000000 in
theorem law_put3 (h : Hd) (k : Fo) (q : Option Addr) (cap : Nat) (n : Int) (H : Hd) (K : Fo) (Q : Option Addr) (C : Nat) (w : World) (ht : TyIs w h k q cap) (hT : TyIs w H K Q C) (hsz2 : 3 + k.size + K.size ≤ 1099511627776) (hr1 : rightB h k 1 = true) (hs1 : rightB H K 1 = false) (hs2 : rightB H K 2 = false) :
    Calls Try.prog 7 #[.agg #[.int .u8 h.op, .string h.name, .int .i64 h.n, .slice q k.len cap], .int .i64 n, .agg #[.int .u8 H.op, .string H.name, .int .i64 H.n, .slice Q K.len C]] w fun e w' => e = .returned (.bool true) ∧ Below w.heap.size w w' := by
  have HT1 := Lib.hid ht
  have HT2 := Lib.hid hT
  have HS := Lib.hid (Box2.start w h k q cap H K Q C)
  have HM1 := Lib.hid fun w' (hb : Below w.heap.size w w') => many_any h k q cap w' ht.sz (ht.sl.below hb)
  have HM2 := Lib.hid fun w' (hb : Below w.heap.size w w') => many_any H K Q C w' hT.sz (hT.sl.below hb)
  have HP := Lib.hid fun w' (hb : Below w.heap.size w w') => Put_any h k q cap n H K Q C w' ht.hh (ht.sl.below hb) ht.hk ht.sz hT.hh (hT.sl.below hb) hT.hk hT.sz
  have HA1 := Lib.hid fun w' (hb : Below w.heap.size w w') => refRight_any h k q cap w' ht.hh ht.hk ht.sz (ht.sl.below hb)
  have HA2 := Lib.hid fun w' (hb : Below w.heap.size w w') => refRow_any h k q cap w' ht.hh ht.hk ht.sz (ht.sl.below hb)
  have HB1 := Lib.hid fun w' (hb : Below w.heap.size w w') => refRight_any H K Q C w' hT.hh hT.hk hT.sz (hT.sl.below hb)
  have HB2 := Lib.hid fun w' (hb : Below w.heap.size w w') => refRow_any H K Q C w' hT.hh hT.hk hT.sz (hT.sl.below hb)
  have HQ1 := Lib.hid fun w' (hb : Below w.heap.size w w') => refPut_any 7 n H K Q C (k.size + 1) h k q cap w' (by omega) ht.sz (ht.sl.below hb) (hT.sl.below hb)
  have HQ2 := Lib.hid fun w' (hb : Below w.heap.size w w') => refPut_any 10 n H K Q C (k.size + 1) h k q cap w' (by omega) ht.sz (ht.sl.below hb) (hT.sl.below hb)
  have HOK := Lib.hid (putTree_ok (n := n) ht.hh ht.hk hT.hh hT.hk)
  have HSZ := Lib.hid hsz2
  have HPT : Hid (putTree n H K h k = (h, k)) := Lib.hid (by unfold putTree riB; rw [hr1, hs1, hs2] <;> rfl)
  rw [hr1] at HA1
  rw [hs1] at HB1
  rw [hs2] at HB2
  clear ht hT hsz2 hr1 hs1 hs2
  go_enter Try.func7, Try.ntmps7
  go_wp2_with fail
  refine (kalive_any _).mono ?_
  rintro e w1 ⟨rfl, hb1⟩
  have hS1 := HS.out.go hb1
  have HS1 := Lib.hid hS1
  obtain ⟨a0, a1, a2, a3, _⟩ := row4 hS1.b0
  obtain ⟨d0, d1, d2, d3, _⟩ := row4 hS1.b1
  clear hS1 hb1
  go_wp2_with fail
  refine (HM1.out _ HS1.out.below).mono ?_
  rintro e w2 ⟨rfl, hb2⟩
  have hS2 := HS1.out.go hb2
  have HS2 := Lib.hid hS2
  obtain ⟨a0, a1, a2, a3, _⟩ := row4 hS2.b0
  obtain ⟨d0, d1, d2, d3, _⟩ := row4 hS2.b1
  clear hS2 hb2
  by_cases hN : 400 < 1 + k.size
  · have hN' : decide (400 < 1 + k.size) = true := decide_eq_true hN
    have HBL := Lib.hid HS2.out.below
    go_wp2_with fail
    go_ret
    exact ⟨rfl, HBL.out⟩
  have hN' : decide (400 < 1 + k.size) = false := decide_eq_false hN
  rw [hN']
  clear hN hN'
  go_wp2_with fail
  refine (HM2.out _ HS2.out.below).mono ?_
  rintro e w3 ⟨rfl, hb3⟩
  have hS3 := HS2.out.go hb3
  have HS3 := Lib.hid hS3
  obtain ⟨a0, a1, a2, a3, _⟩ := row4 hS3.b0
  obtain ⟨d0, d1, d2, d3, _⟩ := row4 hS3.b1
  clear hS3 hb3
  by_cases hN : 400 < 1 + K.size
  · have hN' : decide (400 < 1 + K.size) = true := decide_eq_true hN
    rw [hN']
    clear hN hN'
    go_wp2_with fail
    go_ret
    exact ⟨rfl, HS3.out.below⟩
  have hN' : decide (400 < 1 + K.size) = false := decide_eq_false hN
  rw [hN']
  clear hN hN'
  go_wp2_with fail
  refine (HP.out _ HS3.out.below).mono ?_
  rintro e w4 ⟨qx, cx, rfl, hsx, hb4⟩
  generalize putTree n H K h k = X at *
  have HBL4 := Lib.hid (HS3.out.go hb4)
  have HBX := Lib.hid (below_box w4 (.cells #[.int .u8 X.1.op, .string X.1.name, .int .i64 X.1.n, .slice qx X.2.len cx] 25))
  have HB5 := Lib.hid (HBL4.out.go HBX.out)
  have HX5 : Hid (XBox w4.heap.size X qx cx (w4.alloc (.cells #[.int .u8 X.1.op, .string X.1.name, .int .i64 X.1.n, .slice qx X.2.len cx] 25))) := Lib.hid ⟨World.alloc_heap_new w4 _, hsx.below HBX.out⟩
  obtain ⟨a0, a1, a2, a3, _⟩ := row4 HBL4.out.b0
  obtain ⟨d0, d1, d2, d3, _⟩ := row4 HBL4.out.b1
  have l0 := (Array.getElem?_eq_some_iff.1 HBL4.out.b0).1
  have l1 := (Array.getElem?_eq_some_iff.1 HBL4.out.b1).1
  clear hsx hb4
  go_wp2_with fail
  refine (HA1.out _ HB5.out.below).mono ?_
  rintro e w6 ⟨rfl, hb⟩
  have HB6 := Lib.hid (HB5.out.go hb)
  have HX6 := Lib.hid (HX5.out.go hb)
  clear hb
  obtain ⟨a0, a1, a2, a3, _⟩ := row4 HB6.out.b0
  obtain ⟨d0, d1, d2, d3, _⟩ := row4 HB6.out.b1
  have l0 := (Array.getElem?_eq_some_iff.1 HB6.out.b0).1
  have l1 := (Array.getElem?_eq_some_iff.1 HB6.out.b1).1
  have lx := (Array.getElem?_eq_some_iff.1 HX6.out.b).1
  obtain ⟨x0, x1, x2, x3, _⟩ := row4 HX6.out.b
  have HZ10 := Lib.hid (below_box w6 (.cells #[.int .u8 h.op, .string h.name, .int .i64 h.n, .slice q k.len cap] 25))
  have HY10 := Lib.hid (World.alloc_heap_new w6 (.cells #[.int .u8 h.op, .string h.name, .int .i64 h.n, .slice q k.len cap] 25))
  go_wp2_with fail
  refine (HB1.out _ (below_go3 HB6.out.below HZ10.out)).mono ?_
  rintro e w11 ⟨rfl, hb⟩
  have HZ11 := Lib.hid (below_go3 HZ10.out hb)
  have HY11 := Lib.hid ((hb.block _ (Array.getElem?_eq_some_iff.1 HY10.out).1).trans HY10.out)
  clear hb
  obtain ⟨a0, a1, a2, a3, _⟩ := row4 (HB6.out.go HZ11.out).b0
  obtain ⟨d0, d1, d2, d3, _⟩ := row4 (HB6.out.go HZ11.out).b1
  obtain ⟨y0, y1, y2, y3, z0, z1, z2, z3⟩ := row4 HY11.out
  go_wp2_with fail
  refine (HB2.out _ (below_go3 HB6.out.below HZ11.out)).mono ?_
  rintro e w12 ⟨rfl, hb⟩
  have HZ12 := Lib.hid (below_go3 HZ11.out hb)
  have HY12 := Lib.hid ((hb.block _ (Array.getElem?_eq_some_iff.1 HY11.out).1).trans HY11.out)
  clear hb
  obtain ⟨a0, a1, a2, a3, _⟩ := row4 (HB6.out.go HZ12.out).b0
  obtain ⟨d0, d1, d2, d3, _⟩ := row4 (HB6.out.go HZ12.out).b1
  obtain ⟨y0, y1, y2, y3, z0, z1, z2, z3⟩ := row4 HY12.out
  go_wp2_with fail
  obtain ⟨wb, hwb⟩ : ∃ wb, wb = World.alloc w12 (.cells #[.int .u8 h.op, .string h.name, .int .i64 h.n, .slice q k.len cap, .int .u8 H.op, .string H.name, .int .i64 H.n, .slice Q K.len C] 25) := ⟨_, rfl⟩
  have HBW : Hid (Below w6.heap.size w6 wb) := Lib.hid (by rw [hwb]; exact below_go3 HZ12.out (below_box _ _))
  have HBWw : Hid (Below w.heap.size w wb) := Lib.hid (below_go3 HB6.out.below HBW.out)
  have HR1 := Lib.hid (HB6.out.go HBW.out)
  have HR2 := Lib.hid (HX6.out.go HBW.out)
  have HR3 : Hid (wb.heap[w6.heap.size]? = some (.cells #[.int .u8 h.op, .string h.name, .int .i64 h.n, .slice q k.len cap] 25 (0, 0))) := Lib.hid (by rw [hwb]; exact ((below_box w12 _).block _ (Array.getElem?_eq_some_iff.1 HY12.out).1).trans HY12.out)
  have hgs : (World.heap w12).size = w12.heap.size := by simp
  have HTWO : Hid (SlF wb (some ⟨w12.heap.size, 0, none⟩) 2 (.cons h k (.cons H K .nil))) := Lib.hid (by
    have hnew := World.alloc_heap_new w12 (.cells #[.int .u8 h.op, .string h.name, .int .i64 h.n, .slice q k.len cap, .int .u8 H.op, .string H.name, .int .i64 H.n, .slice Q K.len C] 25)
    rw [← hwb] at hnew
    rw [hgs] at hnew
    exact two_fo hnew (HT1.out.sl.below HBWw.out) (HT2.out.sl.below HBWw.out))
  have HONE : Hid (SlF wb (some ⟨w12.heap.size, 0, none⟩) 2 (.cons h k .nil)) := Lib.hid (by
    obtain ⟨b, o, e, q1, c1, h1, h2, _⟩ := HTWO.out.at_ (by simp [Fo.len])
    exact ⟨by simp [Fo.len], HTWO.out.cm, fun _ => ⟨b, o, e, q1, c1, h1, h2, trivial⟩⟩)
  have GX : Hid (∀ w', Below wb.heap.size wb w' → Calls Try.prog 20 #[.agg #[.int .u8 X.1.op, .string X.1.name, .int .i64 X.1.n, .slice qx X.2.len cx], .agg #[.int .u8 h.op, .string h.name, .int .i64 h.n, .slice q k.len cap]] w' fun e w2 => e = .returned (.bool true) ∧ Below wb.heap.size wb w2) := Lib.hid fun w' hb => by
    have hXe := HPT.out
    have hs := HR2.out.s.below hb
    subst hXe
    exact (Alike_yes h k qx q cx cap w' HT1.out.hh HT1.out.hk hs ((HT1.out.sl.below HBWw.out).below hb)).mono fun e w2 hh => And.intro hh.1 (below_go3 hb hh.2)
  have okF : (Fo.cons h k (.cons H K .nil)).ok := ⟨HT1.out.hh, HT1.out.hk, HT2.out.hh, HT2.out.hk, trivial⟩
  have ok1 : (Fo.cons h k .nil).ok := ⟨HT1.out.hh, HT1.out.hk, trivial⟩
  have GF : Hid (∀ w', Below wb.heap.size wb w' → Calls Try.prog 37 #[.agg #[.int .u8 h.op, .string h.name, .int .i64 h.n, .slice q k.len cap], .agg #[.int .u8 H.op, .string H.name, .int .i64 H.n, .slice Q K.len C]] w' fun e w2 => ∃ q' c', e = .returned (.agg #[.int .u8 4, .string ⟨#[]⟩, .int .i64 0, .slice q' 2 c']) ∧ Hid (SlF w2 q' c' (.cons h k (.cons H K .nil))) ∧ Below wb.heap.size wb w2) := Lib.hid fun w' hb =>
    (Fun_any h k q cap H K Q C w' HT1.out.hh ((HT1.out.sl.below HBWw.out).below hb) HT1.out.hk HT2.out.hh ((HT2.out.sl.below HBWw.out).below hb) HT2.out.hk HSZ.out).mono fun e w2 ⟨q', c', he, hs, hb2⟩ => ⟨q', c', he, Lib.hid hs, below_go3 hb hb2⟩
  have GFA : Hid (∀ w' q' c', Hid (SlF w' q' c' (.cons h k (.cons H K .nil))) → Below wb.heap.size wb w' → Calls Try.prog 20 #[.agg #[.int .u8 4, .string ⟨#[]⟩, .int .i64 0, .slice q' 2 c'], .agg #[.int .u8 4, .string ⟨#[]⟩, .int .i64 0, .slice (some ⟨w12.heap.size, 0, none⟩) 2 2]] w' fun e w2 => e = .returned (.bool true) ∧ Below wb.heap.size wb w2) := Lib.hid fun w' q' c' hs hb =>
    (Alike_yes ⟨4, ⟨#[]⟩, 0⟩ (.cons h k (.cons H K .nil)) q' _ c' 2 w' (hd_ok (by omega) (by omega) (by decide)) okF hs.out (HTWO.out.below hb)).mono fun e w2 hh => And.intro hh.1 (below_go3 hb hh.2)
  have GR : Hid (∀ w', Below wb.heap.size wb w' → Calls Try.prog 38 #[.agg #[.int .u8 h.op, .string h.name, .int .i64 h.n, .slice q k.len cap]] w' fun e w2 => ∃ q' c', e = .returned (.agg #[.int .u8 5, .string ⟨#[]⟩, .int .i64 0, .slice q' 1 c']) ∧ Hid (SlF w2 q' c' (.cons h k .nil)) ∧ Below wb.heap.size wb w2) := Lib.hid fun w' hb =>
    (Rec_any h k q cap w' HT1.out.hh ((HT1.out.sl.below HBWw.out).below hb) HT1.out.hk (by have := HSZ.out; omega)).mono fun e w2 ⟨q', c', he, hs, hb2⟩ => ⟨q', c', he, Lib.hid hs, below_go3 hb hb2⟩
  have GRA : Hid (∀ w' q' c', Hid (SlF w' q' c' (.cons h k .nil)) → Below wb.heap.size wb w' → Calls Try.prog 20 #[.agg #[.int .u8 5, .string ⟨#[]⟩, .int .i64 0, .slice q' 1 c'], .agg #[.int .u8 5, .string ⟨#[]⟩, .int .i64 0, .slice (some ⟨w12.heap.size, 0, none⟩) 1 2]] w' fun e w2 => e = .returned (.bool true) ∧ Below wb.heap.size wb w2) := Lib.hid fun w' q' c' hs hb =>
    (Alike_yes ⟨5, ⟨#[]⟩, 0⟩ (.cons h k .nil) q' _ c' 2 w' (hd_ok (by omega) (by omega) (by decide)) ok1 hs.out (HONE.out.below hb)).mono fun e w2 hh => And.intro hh.1 (below_go3 hb hh.2)
  have GV : Hid (∀ w', Below wb.heap.size wb w' → Calls Try.prog 39 #[.agg #[.int .u8 h.op, .string h.name, .int .i64 h.n, .slice q k.len cap]] w' fun e w2 => ∃ q' c', e = .returned (.agg #[.int .u8 6, .string ⟨#[]⟩, .int .i64 0, .slice q' 1 c']) ∧ Hid (SlF w2 q' c' (.cons h k .nil)) ∧ Below wb.heap.size wb w2) := Lib.hid fun w' hb =>
    (Vnt_any h k q cap w' HT1.out.hh ((HT1.out.sl.below HBWw.out).below hb) HT1.out.hk (by have := HSZ.out; omega)).mono fun e w2 ⟨q', c', he, hs, hb2⟩ => ⟨q', c', he, Lib.hid hs, below_go3 hb hb2⟩
  have GVA : Hid (∀ w' q' c', Hid (SlF w' q' c' (.cons h k .nil)) → Below wb.heap.size wb w' → Calls Try.prog 20 #[.agg #[.int .u8 6, .string ⟨#[]⟩, .int .i64 0, .slice q' 1 c'], .agg #[.int .u8 6, .string ⟨#[]⟩, .int .i64 0, .slice (some ⟨w12.heap.size, 0, none⟩) 1 2]] w' fun e w2 => e = .returned (.bool true) ∧ Below wb.heap.size wb w2) := Lib.hid fun w' q' c' hs hb =>
    (Alike_yes ⟨6, ⟨#[]⟩, 0⟩ (.cons h k .nil) q' _ c' 2 w' (hd_ok (by omega) (by omega) (by decide)) ok1 hs.out (HONE.out.below hb)).mono fun e w2 hh => And.intro hh.1 (below_go3 hb hh.2)
  have GI := Lib.hid fun w' (hb : Below wb.heap.size wb w') => (Int_any w').mono fun e w2 hh => And.intro hh.1 (below_go3 hb hh.2)
  have GIA : Hid (∀ w', Below wb.heap.size wb w' → Calls Try.prog 20 #[.agg #[.int .u8 1, .string ⟨#[]⟩, .int .i64 0, .slice none 0 0], .agg #[.int .u8 1, .string ⟨#[]⟩, .int .i64 0, .slice none 0 0]] w' fun e w2 => e = .returned (.bool true) ∧ Below wb.heap.size wb w2) := Lib.hid fun w' hb =>
    (Alike_yes ⟨1, ⟨#[]⟩, 0⟩ .nil none none 0 0 w' (hd_ok (by omega) (by omega) (by decide)) trivial ⟨Nat.le_refl _, by unfold maxLen; omega, fun h0 => by simp [Fo.len] at h0⟩ ⟨Nat.le_refl _, by unfold maxLen; omega, fun h0 => by simp [Fo.len] at h0⟩).mono fun e w2 hh => And.intro hh.1 (below_go3 hb hh.2)
  have GB := Lib.hid fun w' (hb : Below wb.heap.size wb w') => (Bool_any w').mono fun e w2 hh => And.intro hh.1 (below_go3 hb hh.2)
  have GBA : Hid (∀ w', Below wb.heap.size wb w' → Calls Try.prog 20 #[.agg #[.int .u8 2, .string ⟨#[]⟩, .int .i64 0, .slice none 0 0], .agg #[.int .u8 2, .string ⟨#[]⟩, .int .i64 0, .slice none 0 0]] w' fun e w2 => e = .returned (.bool true) ∧ Below wb.heap.size wb w2) := Lib.hid fun w' hb =>
    (Alike_yes ⟨2, ⟨#[]⟩, 0⟩ .nil none none 0 0 w' (hd_ok (by omega) (by omega) (by decide)) trivial ⟨Nat.le_refl _, by unfold maxLen; omega, fun h0 => by simp [Fo.len] at h0⟩ ⟨Nat.le_refl _, by unfold maxLen; omega, fun h0 => by simp [Fo.len] at h0⟩).mono fun e w2 hh => And.intro hh.1 (below_go3 hb hh.2)
  have GD := Lib.hid fun w' (hb : Below wb.heap.size wb w') => (Dyn_any w').mono fun e w2 hh => And.intro hh.1 (below_go3 hb hh.2)
  have GDA : Hid (∀ w', Below wb.heap.size wb w' → Calls Try.prog 20 #[.agg #[.int .u8 3, .string ⟨#[]⟩, .int .i64 0, .slice none 0 0], .agg #[.int .u8 3, .string ⟨#[]⟩, .int .i64 0, .slice none 0 0]] w' fun e w2 => e = .returned (.bool true) ∧ Below wb.heap.size wb w2) := Lib.hid fun w' hb =>
    (Alike_yes ⟨3, ⟨#[]⟩, 0⟩ .nil none none 0 0 w' (hd_ok (by omega) (by omega) (by decide)) trivial ⟨Nat.le_refl _, by unfold maxLen; omega, fun h0 => by simp [Fo.len] at h0⟩ ⟨Nat.le_refl _, by unfold maxLen; omega, fun h0 => by simp [Fo.len] at h0⟩).mono fun e w2 hh => And.intro hh.1 (below_go3 hb hh.2)
  have HJ : Hid (∀ w', Below wb.heap.size wb w' → Below wb.heap.size wb w' ∧ w'.cell? ⟨w.heap.size, 0, none⟩ = some (.int .u8 h.op) ∧ w'.cell? ⟨w.heap.size, 1, none⟩ = some (.string h.name) ∧ w'.cell? ⟨w.heap.size, 2, none⟩ = some (.int .i64 h.n) ∧ w'.cell? ⟨w.heap.size, 3, none⟩ = some (.slice q k.len cap) ∧ w'.cell? ⟨w.heap.size + 1, 0, none⟩ = some (.int .u8 H.op) ∧ w'.cell? ⟨w.heap.size + 1, 1, none⟩ = some (.string H.name) ∧ w'.cell? ⟨w.heap.size + 1, 2, none⟩ = some (.int .i64 H.n) ∧ w'.cell? ⟨w.heap.size + 1, 3, none⟩ = some (.slice Q K.len C) ∧ w'.cell? ⟨w4.heap.size, 0, none⟩ = some (.int .u8 X.1.op) ∧ w'.cell? ⟨w4.heap.size, 1, none⟩ = some (.string X.1.name) ∧ w'.cell? ⟨w4.heap.size, 2, none⟩ = some (.int .i64 X.1.n) ∧ w'.cell? ⟨w4.heap.size, 3, none⟩ = some (.slice qx X.2.len cx) ∧ w'.cell? ⟨w6.heap.size, 0, none⟩ = some (.int .u8 h.op) ∧ w'.cell? ⟨w6.heap.size, 1, none⟩ = some (.string h.name) ∧ w'.cell? ⟨w6.heap.size, 2, none⟩ = some (.int .i64 h.n) ∧ w'.cell? ⟨w6.heap.size, 3, none⟩ = some (.slice q k.len cap)) := Lib.hid fun w' hb => by
    have k1 := HR1.out.go hb
    obtain ⟨p0, p1, p2, p3, _⟩ := row4 k1.b0
    obtain ⟨p4, p5, p6, p7, _⟩ := row4 k1.b1
    obtain ⟨p8, p9, p10, p11, _⟩ := row4 (HR2.out.go hb).b
    obtain ⟨p12, p13, p14, p15, _⟩ := row4 ((hb.block _ (Array.getElem?_eq_some_iff.1 HR3.out).1).trans HR3.out)
    exact ⟨hb, p0, p1, p2, p3, p4, p5, p6, p7, p8, p9, p10, p11, p12, p13, p14, p15⟩
  rw [← hwb]
  clear hwb hgs okF ok1 HR1 HR2 HR3 HTWO HONE
  go_region_held3 (fun w' => Below wb.heap.size wb w' ∧ w'.cell? ⟨w.heap.size, 0, none⟩ = some (.int .u8 h.op) ∧ w'.cell? ⟨w.heap.size, 1, none⟩ = some (.string h.name) ∧ w'.cell? ⟨w.heap.size, 2, none⟩ = some (.int .i64 h.n) ∧ w'.cell? ⟨w.heap.size, 3, none⟩ = some (.slice q k.len cap) ∧ w'.cell? ⟨w.heap.size + 1, 0, none⟩ = some (.int .u8 H.op) ∧ w'.cell? ⟨w.heap.size + 1, 1, none⟩ = some (.string H.name) ∧ w'.cell? ⟨w.heap.size + 1, 2, none⟩ = some (.int .i64 H.n) ∧ w'.cell? ⟨w.heap.size + 1, 3, none⟩ = some (.slice Q K.len C) ∧ w'.cell? ⟨w4.heap.size, 0, none⟩ = some (.int .u8 X.1.op) ∧ w'.cell? ⟨w4.heap.size, 1, none⟩ = some (.string X.1.name) ∧ w'.cell? ⟨w4.heap.size, 2, none⟩ = some (.int .i64 X.1.n) ∧ w'.cell? ⟨w4.heap.size, 3, none⟩ = some (.slice qx X.2.len cx) ∧ w'.cell? ⟨w6.heap.size, 0, none⟩ = some (.int .u8 h.op) ∧ w'.cell? ⟨w6.heap.size, 1, none⟩ = some (.string h.name) ∧ w'.cell? ⟨w6.heap.size, 2, none⟩ = some (.int .i64 h.n) ∧ w'.cell? ⟨w6.heap.size, 3, none⟩ = some (.slice q k.len cap)) ((refine HJ.out _ ?_; (first | assumption | exact (below_drewN (Below.refl _ _) _).drew | exact below_drewN (Below.refl _ _) _ | exact (Below.refl _ _).drew | exact Below.refl _ _ | (go_split_ands; assumption)))) (first | (go_at_call 37; (with_reducible refine (GF.out _ ?_).mono ?_); (first | assumption | exact (below_drewN (Below.refl _ _) _).drew | exact below_drewN (Below.refl _ _) _ | exact (Below.refl _ _).drew | exact Below.refl _ _ | (go_split_ands; assumption)); rintro e w21 ⟨q21, c21, rfl, hs21, hc21⟩) | (go_at_call 38; (with_reducible refine (GR.out _ ?_).mono ?_); (first | assumption | exact (below_drewN (Below.refl _ _) _).drew | exact below_drewN (Below.refl _ _) _ | exact (Below.refl _ _).drew | exact Below.refl _ _ | (go_split_ands; assumption)); rintro e w22 ⟨q22, c22, rfl, hs22, hc22⟩) | (go_at_call 39; (with_reducible refine (GV.out _ ?_).mono ?_); (first | assumption | exact (below_drewN (Below.refl _ _) _).drew | exact below_drewN (Below.refl _ _) _ | exact (Below.refl _ _).drew | exact Below.refl _ _ | (go_split_ands; assumption)); rintro e w23 ⟨q23, c23, rfl, hs23, hc23⟩) | (go_at_call 40; (with_reducible refine (GI.out _ ?_).mono ?_); (first | assumption | exact (below_drewN (Below.refl _ _) _).drew | exact below_drewN (Below.refl _ _) _ | exact (Below.refl _ _).drew | exact Below.refl _ _ | (go_split_ands; assumption)); rintro e w24 ⟨rfl, hc24⟩) | (go_at_call 41; (with_reducible refine (GB.out _ ?_).mono ?_); (first | assumption | exact (below_drewN (Below.refl _ _) _).drew | exact below_drewN (Below.refl _ _) _ | exact (Below.refl _ _).drew | exact Below.refl _ _ | (go_split_ands; assumption)); rintro e w25 ⟨rfl, hc25⟩) | (go_at_call 42; (with_reducible refine (GD.out _ ?_).mono ?_); (first | assumption | exact (below_drewN (Below.refl _ _) _).drew | exact below_drewN (Below.refl _ _) _ | exact (Below.refl _ _).drew | exact Below.refl _ _ | (go_split_ands; assumption)); rintro e w26 ⟨rfl, hc26⟩) | (go_at_call 20; (with_reducible refine (GX.out _ ?_).mono ?_); (first | assumption | exact (below_drewN (Below.refl _ _) _).drew | exact below_drewN (Below.refl _ _) _ | exact (Below.refl _ _).drew | exact Below.refl _ _ | (go_split_ands; assumption)); rintro e w27 ⟨rfl, hc27⟩) | (go_at_call 20; (with_reducible refine (GFA.out _ _ _ ?_ ?_).mono ?_); assumption; (first | assumption | exact (below_drewN (Below.refl _ _) _).drew | exact below_drewN (Below.refl _ _) _ | exact (Below.refl _ _).drew | exact Below.refl _ _ | (go_split_ands; assumption)); rintro e w28 ⟨rfl, hc28⟩) | (go_at_call 20; (with_reducible refine (GRA.out _ _ _ ?_ ?_).mono ?_); assumption; (first | assumption | exact (below_drewN (Below.refl _ _) _).drew | exact below_drewN (Below.refl _ _) _ | exact (Below.refl _ _).drew | exact Below.refl _ _ | (go_split_ands; assumption)); rintro e w29 ⟨rfl, hc29⟩) | (go_at_call 20; (with_reducible refine (GVA.out _ _ _ ?_ ?_).mono ?_); assumption; (first | assumption | exact (below_drewN (Below.refl _ _) _).drew | exact below_drewN (Below.refl _ _) _ | exact (Below.refl _ _).drew | exact Below.refl _ _ | (go_split_ands; assumption)); rintro e w30 ⟨rfl, hc30⟩) | (go_at_call 20; (with_reducible refine (GIA.out _ ?_).mono ?_); (first | assumption | exact (below_drewN (Below.refl _ _) _).drew | exact below_drewN (Below.refl _ _) _ | exact (Below.refl _ _).drew | exact Below.refl _ _ | (go_split_ands; assumption)); rintro e w31 ⟨rfl, hc31⟩) | (go_at_call 20; (with_reducible refine (GBA.out _ ?_).mono ?_); (first | assumption | exact (below_drewN (Below.refl _ _) _).drew | exact below_drewN (Below.refl _ _) _ | exact (Below.refl _ _).drew | exact Below.refl _ _ | (go_split_ands; assumption)); rintro e w32 ⟨rfl, hc32⟩) | (go_at_call 20; (with_reducible refine (GDA.out _ ?_).mono ?_); (first | assumption | exact (below_drewN (Below.refl _ _) _).drew | exact below_drewN (Below.refl _ _) _ | exact (Below.refl _ _).drew | exact Below.refl _ _ | (go_split_ands; assumption)); rintro e w33 ⟨rfl, hc33⟩))
  rename_i hH
  have HBH := Lib.hid hH.1
  clear hH
  go_wp2
  go_ret
  exact ⟨rfl, below_go3 HBWw.out HBH.out⟩
end Go.Proofs.Ytaaohaihajccgaa
