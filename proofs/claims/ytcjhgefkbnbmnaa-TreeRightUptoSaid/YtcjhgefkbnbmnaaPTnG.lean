/- TreeRight: the law's walk. -/
import Derived.Test.YtcjhgefkbnbmnaaPTnF
import Derived.Test.YtcjhgefkbnbmnaaPTnD
import Derived.Test.YtcjhgefkbnbmnaaPTmS
namespace Go.Proofs.Ytcjhgefkbnbmnaa
open Go.RowKit LM
set_option linter.unusedVariables false

section
open Go.Shelf
attribute [local go_sem] Oper.semAt_some
set_option maxRecDepth 100000 in
set_option maxHeartbeats 2000000 in
theorem TCount_any (h : TH) (f : TF) (qa : Option Addr) (ca : Nat) (q : Option Addr) (cap : Nat) (w : World) (hh : h.ok) (ha : SlF w qa ca h.ak) (hf : TSl w q cap f) (hok : f.ok) (hsz : 1 + f.size ≤ 1099511627776) :
    Calls Try.prog 36 #[.agg (tmV h qa ca q f.len cap)] w fun e w' => e = .returned (.int .i64 (1 + f.size : Nat)) ∧ Below w.heap.size w w' := by
  refine (callsIn_wide (n := 9)).1 ?_
  have hst := tboxed_st w h f qa ca q cap ha hf
  have hall := length_lone 1 h f
  have HP := Lib.hid nodes_any
  unfold tmV at *
  refine callsIn_of_wp_marks Try.func36 rfl trivial ?_ rfl
  simp only [Try.ntmps36, List.size_toArray, List.length_cons, List.length_nil, Nat.reduceAdd, Nat.reduceSub, Array.replicate_succ, Array.replicate_zero, List.push_toArray, List.append_toArray, List.nil_append, List.cons_append]
  gi_wp2_with (refine ⟨trivial, ?_⟩; gi_at_call 74; refine (callsIn_wide.2 (HP.out _ _)).mono ?_; rintro e w' ⟨rfl, rfl⟩)
  refine range_look rfl (by omega) (Bn := w.heap.size + 1 + 1) rfl trivial (w.heap.size, 0) ?c1 rfl _ ?c2 (1, h, f) hst ?c3 ?c4
    (fun pre D W => Boxed W (w.heap.size + 1) 3 (.int .i64 pre.length)) (fun _ _ _ _ => False)
    (fun pre D X Y row hx hg hr => hx.kept hg (fun e => by have := (hr _ e.symm).1; simp at this; omega)) (fun _ _ _ _ _ _ hx _ _ => hx.elim) ?c5
    (fun p => { tmps := #[.agg #[.int .u8 h.op, .string h.name, .string h.arg, .int .i64 h.n, .bool h.has, .int .u8 h.ah.op, .string h.ah.name, .int .i64 h.ah.n, .slice qa h.ak.len ca, .slice q f.len cap], .pointer (some ⟨w.heap.size, 0, none⟩), .int .i64 0, .pointer (some ⟨w.heap.size + 1, 0, none⟩), .func (.func 98) #[] #[.pointer (some ⟨w.heap.size + 1 + 1, 0, none⟩)], .int .i64 p.1, .pointer (some ⟨p.2.1, p.2.2, none⟩), undef, undef, undef], defers := [] }) ?assign ?body ?done ?stop
  case assign =>
    intro l p W K hK
    gi_wp2
    simpa using hK
  case c1 =>
    have := World.alloc_heap_new ((w.alloc (.cells #[.int .u8 h.op, .string h.name, .string h.arg, .int .i64 h.n, .bool h.has, .int .u8 h.ah.op, .string h.ah.name, .int .i64 h.ah.n, .slice qa h.ak.len ca, .slice q f.len cap] 43)).alloc (.cells #[.int .i64 0] 3)) (.cells #[.pointer (some ⟨w.heap.size, 0, none⟩)] 82)
    rw [World.size_alloc, World.size_alloc] at this
    simp only [World.cell?, this]; rfl
  case c2 => exact ((Below.refl _ _).alloc (by simp) _).alloc (by simp) _
  case c3 => intro t ht; simp at ht; subst ht; exact ⟨hh, hok⟩
  case c4 => rw [hall]; exact hsz
  case c5 => exact (by have := Boxed.new (w.alloc (.cells #[.int .u8 h.op, .string h.name, .string h.arg, .int .i64 h.n, .bool h.has, .int .u8 h.ah.op, .string h.ah.name, .int .i64 h.ah.n, .slice qa h.ak.len ca, .slice q f.len cap] 43)) 3 (.int .i64 0); rw [World.size_alloc] at this; exact this.alloc _)
  case body =>
    rintro l pre x rest p D W he hB hp hlt hlv hx1 hx2 hW hD hbox
    have hc := hbox.cell
    have hfz := hbox.frozen
    have hlen : pre.length + 1 ≤ 1099511627776 := by rw [he] at hall; simp at hall; omega
    gi_wp2
    refine ⟨D, Tch.set _ (by simp), (Below.refl _ _).setCell (p := ⟨w.heap.size + 1, 0, none⟩) (by simp) _, ?_⟩
    have := hbox.set (.int .i64 (pre.length + 1))
    simpa using this
  case done =>
    rintro K D W hK hDK hB hbox hKd
    have hc := hbox.cell
    rw [hall] at hc
    gi_wp2
    refine ⟨by simp, .inl ⟨_, _, rfl, run_takeDeferred hKd, ?_⟩⟩
    have hB2 : Below w.heap.size w W := ((Below.refl _ _).alloc (Nat.le_refl _) _).trans (hB.mono (by simp))
    refine ⟨_, results_tmp rfl _ _ _, ?_, below_put hB2 hKd (by simp at hK; omega)⟩
    exact ret_int (a := 1 + (f.size : Int)) (by omega)
  case stop =>
    rintro K c pre rest D W hK hDK he hB hx hKd
    exact hx.elim

end
theorem tok_flat : ∀ {f : TF}, f.ok → ∀ t ∈ f.flat, t.1.ok ∧ t.2.ok
  | .nil, _, t, ht => by cases ht
  | .cons h k r, ⟨h1, h2, h3⟩, t, ht => by
    simp only [TF.flat, List.mem_cons, List.mem_append] at ht
    rcases ht with rfl | ht | ht
    · exact ⟨h1, h2⟩
    · exact tok_flat h2 t ht
    · exact tok_flat h3 t ht
def zTH : TH := ⟨0, ⟨#[]⟩, ⟨#[]⟩, 0, false, ⟨0, ⟨#[]⟩, 0⟩, .nil⟩
theorem zTH_ok : zTH.ok := ⟨by decide, by decide, by decide, by decide, by decide, by decide, ⟨by decide, by decide, by decide, by decide, by decide⟩, trivial⟩
theorem sl_nil (w : World) : SlF w none 0 .nil := ⟨Nat.le_refl _, Nat.zero_le _, fun h => absurd h (Nat.lt_irrefl _)⟩

set_option maxRecDepth 100000 in
set_option maxHeartbeats 8000000 in
theorem law_tright (h : TH) (k : TF) (qa : Option Addr) (ca : Nat) (q : Option Addr) (cap : Nat) (n : Int) (w : World) (ht : TmIs w h k qa ca q cap) (hn0 : -9223372036854775808 ≤ n) (hn1 : n ≤ 9223372036854775807) (hu : 0 ≤ 0) :
    Calls Try.prog 6 #[.agg (tmV h qa ca q k.len cap), .int .i64 n] w fun e w' => e = .returned (.bool true) ∧ Below w.heap.size w w' := by
  have hb20 := ht.hb
  have hszb := TF.size_le_bulk k
  have HT := Lib.hid ht
  have HM := Lib.hid fun w' (hb : Below w.heap.size w w') => many5_any h k qa ca q cap w' (ht.ha.below hb) (ht.hs.below hb) (by omega)
  have HNS := Lib.hid fun w' (hb : Below w.heap.size w w') => Nodes_any w (k.size + 1) h k qa ca q cap w' (by omega) (by omega) hb ht.ha ht.hs
  have HR1 := Lib.hid fun w' (hb : Below w.heap.size w w') => TRight_any h k qa ca q cap w' ht.hh ht.hk (ht.ha.below hb) (ht.hs.below hb) (by omega)
  have HR2 : Hid (∀ w', Below w.heap.size w w' → Calls Try.prog 35 #[.agg (tmV h qa ca q k.len cap), .bool false] w' fun e w'' => e = .returned (.bool (trightB h k)) ∧ Below w'.heap.size w' w'') := Lib.hid fun w' hb => by
    rw [trightB_rT]; exact refTR_any (k.size + 1) false h k qa ca q cap w' (by omega) ht.hh ht.hk (ht.ha.below hb) (ht.hs.below hb) (by omega)
  have HCT := Lib.hid fun w' (hb : Below w.heap.size w w') => TCount_any h k qa ca q cap w' ht.hh (ht.ha.below hb) (ht.hs.below hb) ht.hk (by omega)
  have HDP := Lib.hid fun w' (hb : Below w.heap.size w w') => Depth_any h k qa ca q cap w' ht.hh (ht.ha.below hb) (ht.hs.below hb) ht.hk (by omega)
  have HRD := Lib.hid fun w' (hb : Below w.heap.size w w') => refDepth_any (k.size + 1) h k qa ca q cap w' (by omega) (by omega) (ht.ha.below hb) (ht.hs.below hb)
  have HND := Lib.hid fun w' (hb : Below w.heap.size w w') => Node_any h k qa ca q cap n w' hn0 hn1 ht.hh ht.hk (ht.ha.below hb) (ht.hs.below hb) (by omega)
  have HOK : Hid (∀ t ∈ (h, k) :: k.flat, t.1.ok ∧ t.2.ok) := Lib.hid fun t h1 => by
    rcases List.mem_cons.1 h1 with rfl | h1
    · exact ⟨ht.hh, ht.hk⟩
    · exact tok_flat ht.hk t h1
  have HAL := Lib.hid talive_any
  have HX0 := Lib.hid (World.alloc_heap_new w (.cells (tmV h qa ca q k.len cap) 43))
  have hlen : ((h, k) :: k.flat).length = 1 + k.size := by simp [TF.length_flat]; omega
  have HLEN := Lib.hid hlen
  have hdz := dep_le_size k
  have hNb : 1 + k.size ≤ 1099511627776 := by omega
  have hDb : 1 + k.dep ≤ 1099511627776 := by omega
  clear ht hlen hdz hb20 hszb
  unfold NodesPost at HNS
  generalize hn : (decide (300 < 1 + k.size) || decide (900 < 1 + h.ak.size + k.bulk)) = n1 at *
  clear hn
  generalize trightB h k = tb at *
  generalize 1 + k.dep = D at *
  generalize hN : 1 + k.size = N at *
  have hN1 : 0 < N := by omega
  clear hN
  have hbb : (tb != tb) = false := by cases tb <;> rfl
  generalize hLL : (h, k) :: k.flat = LL at *
  have HLL := Lib.hid hLL
  clear hLL
  unfold tmV at HM HNS HR1 HR2 HCT HDP HRD HND HX0 ⊢
  go_enter Try.func6, Try.ntmps6
  go_wp2_with fail
  refine (HAL.out _).mono ?_
  rintro e w1 ⟨rfl, hb1⟩
  have hx1 := (hb1.block _ (by simp)).trans HX0.out
  obtain ⟨x0, x1, x2, x3, x4, x5, x6, x7, x8, x9⟩ := row10 hx1
  have HB1 := Lib.hid (below_then (below_box _ _) hb1)
  have HX1 := Lib.hid hx1
  clear hb1 hx1
  go_wp2_with fail
  refine (HM.out _ HB1.out).mono ?_
  rintro e w2 ⟨rfl, hb2⟩
  have hx2 := (hb2.block _ (Array.getElem?_eq_some_iff.1 HX1.out).1).trans HX1.out
  have HB2 := Lib.hid (below_then HB1.out hb2)
  have HX2 := Lib.hid hx2
  clear hb2 x0 x1 x2 x3 x4 x5 x6 x7 x8 x9 HX1 HB1
  obtain ⟨x0, x1, x2, x3, x4, x5, x6, x7, x8, x9⟩ := row10 hx2
  clear hx2
  cases n1
  case true =>
    go_wp2
    go_ret
    exact ⟨rfl, HB2.out⟩
  case false =>
    go_wp2_with fail
    refine (HNS.out _ HB2.out).mono ?_
    rintro e w3 ⟨v, ps, rfl, hown, hps, hpk, hb3⟩
    obtain ⟨g, c, cur, rfl, g1, g2, g3, g4, g5⟩ := own_some hown hN1
    have hx3 := (hb3.block _ (Array.getElem?_eq_some_iff.1 HX2.out).1).trans HX2.out
    have HB3 := Lib.hid (below_then HB2.out hb3)
    have HX3 := Lib.hid hx3
    have HG5 := Lib.hid g5
    have HG2 := Lib.hid g2
    have HPS := Lib.hid hps
    have HPK := Lib.hid hpk
    unfold maxLen at g4
    have hNN : ((N : Int) != (N : Int)) = false := by simp
    have hDD : ((D : Int) != (D : Int)) = false := by simp
    clear hb3 x0 x1 x2 x3 x4 x5 x6 x7 x8 x9 HX2 g1 g2 g5 hps hpk hown
    obtain ⟨x0, x1, x2, x3, x4, x5, x6, x7, x8, x9⟩ := row10 hx3
    clear hx3
    have HJ : Hid (∀ w', Below w3.heap.size w3 w' → Below w3.heap.size w3 w' ∧ w'.cell? ⟨w.heap.size, 0, none⟩ = some (.int .u8 h.op) ∧ w'.cell? ⟨w.heap.size, 1, none⟩ = some (.string h.name) ∧ w'.cell? ⟨w.heap.size, 2, none⟩ = some (.string h.arg) ∧ w'.cell? ⟨w.heap.size, 3, none⟩ = some (.int .i64 h.n) ∧ w'.cell? ⟨w.heap.size, 4, none⟩ = some (.bool h.has) ∧ w'.cell? ⟨w.heap.size, 5, none⟩ = some (.int .u8 h.ah.op) ∧ w'.cell? ⟨w.heap.size, 6, none⟩ = some (.string h.ah.name) ∧ w'.cell? ⟨w.heap.size, 7, none⟩ = some (.int .i64 h.ah.n) ∧ w'.cell? ⟨w.heap.size, 8, none⟩ = some (.slice qa h.ak.len ca) ∧ w'.cell? ⟨w.heap.size, 9, none⟩ = some (.slice q k.len cap)) := Lib.hid fun w' hb =>
      ⟨hb, row10 ((hb.block _ (Array.getElem?_eq_some_iff.1 HX3.out).1).trans HX3.out)⟩
    have G1 := Lib.hid fun W (hb : Below w3.heap.size w3 W) => (HR1.out W (below_go2 HB3.out hb)).mono fun e w2 hh => And.intro hh.1 (below_go2 hb hh.2)
    have G2 := Lib.hid fun W (hb : Below w3.heap.size w3 W) => (HR2.out W (below_go2 HB3.out hb)).mono fun e w2 hh => And.intro hh.1 (below_go2 hb hh.2)
    have G3 := Lib.hid fun W (hb : Below w3.heap.size w3 W) => (HCT.out W (below_go2 HB3.out hb)).mono fun e w2 hh => And.intro hh.1 (below_go2 hb hh.2)
    have G4 := Lib.hid fun W (hb : Below w3.heap.size w3 W) => (HDP.out W (below_go2 HB3.out hb)).mono fun e w2 hh => And.intro hh.1 (below_go2 hb hh.2)
    have G5 := Lib.hid fun W (hb : Below w3.heap.size w3 W) => (HRD.out W (below_go2 HB3.out hb)).mono fun e w2 hh => And.intro hh.1 (below_go2 hb hh.2)
    clear HM HNS HR1 HR2 HCT HDP HRD
    go_wp2
    go_region_held3 (fun w' => Below w3.heap.size w3 w' ∧ w'.cell? ⟨w.heap.size, 0, none⟩ = some (.int .u8 h.op) ∧ w'.cell? ⟨w.heap.size, 1, none⟩ = some (.string h.name) ∧ w'.cell? ⟨w.heap.size, 2, none⟩ = some (.string h.arg) ∧ w'.cell? ⟨w.heap.size, 3, none⟩ = some (.int .i64 h.n) ∧ w'.cell? ⟨w.heap.size, 4, none⟩ = some (.bool h.has) ∧ w'.cell? ⟨w.heap.size, 5, none⟩ = some (.int .u8 h.ah.op) ∧ w'.cell? ⟨w.heap.size, 6, none⟩ = some (.string h.ah.name) ∧ w'.cell? ⟨w.heap.size, 7, none⟩ = some (.int .i64 h.ah.n) ∧ w'.cell? ⟨w.heap.size, 8, none⟩ = some (.slice qa h.ak.len ca) ∧ w'.cell? ⟨w.heap.size, 9, none⟩ = some (.slice q k.len cap)) ((refine HJ.out _ ?_; (first | (with_reducible assumption) | (go_split_ands; with_reducible assumption) | (repeat' (first | (with_reducible assumption) | (with_reducible exact Below.refl _ _) | (with_reducible refine Below.drew ?_)))))) (first
      | (go_at_call 34; (with_reducible refine (G1.out _ ?_).mono ?_); (first | (with_reducible assumption) | (go_split_ands; with_reducible assumption) | (repeat' (first | (with_reducible assumption) | (with_reducible exact Below.refl _ _) | (with_reducible refine Below.drew ?_)))); rintro e wS ⟨rfl, r1⟩)
      | (go_at_call 35; (with_reducible refine (G2.out _ ?_).mono ?_); (first | (with_reducible assumption) | (go_split_ands; with_reducible assumption) | (repeat' (first | (with_reducible assumption) | (with_reducible exact Below.refl _ _) | (with_reducible refine Below.drew ?_)))); rintro e wS ⟨rfl, r2⟩)
      | (go_at_call 36; (with_reducible refine (G3.out _ ?_).mono ?_); (first | (with_reducible assumption) | (go_split_ands; with_reducible assumption) | (repeat' (first | (with_reducible assumption) | (with_reducible exact Below.refl _ _) | (with_reducible refine Below.drew ?_)))); rintro e wS ⟨rfl, r3⟩)
      | (go_at_call 37; (with_reducible refine (G4.out _ ?_).mono ?_); (first | (with_reducible assumption) | (go_split_ands; with_reducible assumption) | (repeat' (first | (with_reducible assumption) | (with_reducible exact Below.refl _ _) | (with_reducible refine Below.drew ?_)))); rintro e wS ⟨rfl, r4⟩)
      | (go_at_call 38; (with_reducible refine (G5.out _ ?_).mono ?_); (first | (with_reducible assumption) | (go_split_ands; with_reducible assumption) | (repeat' (first | (with_reducible assumption) | (with_reducible exact Below.refl _ _) | (with_reducible refine Below.drew ?_)))); rintro e wS ⟨rfl, r5⟩))
    rename_i hH
    have HB4 := Lib.hid hH.1
    obtain ⟨_, x0', x1', x2', x3', x4', x5', x6', x7', x8', x9'⟩ := hH
    clear HJ G1 G2 G3 G4 G5 r1 r2 r3 r4 r5 x0 x1 x2 x3 x4 x5 x6 x7 x8 x9
    go_wp2_with fail
    refine (HND.out _ (below_go2 HB3.out HB4.out)).mono ?_
    rintro e w6 ⟨hb6, hcase⟩
    have HB6 := Lib.hid (below_go2 HB4.out hb6)
    have HBW6 := Lib.hid (below_go2 HB3.out (below_go2 HB4.out hb6))
    clear hb6 HND x0' x1' x2' x3' x4' x5' x6' x7' x8' x9'
    rcases hcase with ⟨i, t, hi, hl, qx, cx, qy, cy, Ga, G, rfl, l5, m5, oa5, ok5, nd5, li5⟩ | ⟨hno, rfl⟩
    · have hiN : i < N := by
        have h1 := (List.getElem?_eq_some_iff.1 hl).1
        rw [HLEN.out] at h1; exact h1
      have hmem : t ∈ LL := List.mem_of_getElem? hl
      have htok := HOK.out t hmem
      have hps' : (ps.map TV.t)[i]? = some t := by rw [HPS.out]; exact hl
      rw [List.getElem?_map] at hps'
      obtain ⟨pv, hpv, hpt⟩ := Option.map_eq_some_iff.1 hps'
      have hok := HPK.out pv (List.mem_of_getElem? hpv)
      have hcell := fun c (hc : c < 10) => tvCells_get ps i pv hpv c hc
      subst hi
      have hz6 := (Array.getElem?_eq_some_iff.1 HG2.out).1
      have hc6 : ∀ c u, c < 10 → pv.enc[c]? = some u → ∀ W, Below w3.heap.size w3 W → W.cell? ⟨g, i * 10 + c, none⟩ = some u := fun c u hc hu W hb => by
        have := HG5.out (i * 10 + c) u (by rw [hcell c hc]; exact hu)
        rw [Nat.zero_add] at this
        exact (hb.cell (p := ⟨g, i * 10 + c, none⟩) hz6).trans this
      obtain ⟨pt, pqa, pca, pq, pcap⟩ := pv
      simp only at hpt
      subst hpt
      have HCELL : Hid (∀ W, Below w3.heap.size w3 W → W.cell? ⟨g, i * 10, none⟩ = some (.int .u8 pt.1.op) ∧ W.cell? ⟨g, i * 10 + 1, none⟩ = some (.string pt.1.name) ∧ W.cell? ⟨g, i * 10 + 2, none⟩ = some (.string pt.1.arg) ∧ W.cell? ⟨g, i * 10 + 3, none⟩ = some (.int .i64 pt.1.n) ∧ W.cell? ⟨g, i * 10 + 4, none⟩ = some (.bool pt.1.has) ∧ W.cell? ⟨g, i * 10 + 5, none⟩ = some (.int .u8 pt.1.ah.op) ∧ W.cell? ⟨g, i * 10 + 6, none⟩ = some (.string pt.1.ah.name) ∧ W.cell? ⟨g, i * 10 + 7, none⟩ = some (.int .i64 pt.1.ah.n) ∧ W.cell? ⟨g, i * 10 + 8, none⟩ = some (.slice pqa pt.1.ak.len pca) ∧ W.cell? ⟨g, i * 10 + 9, none⟩ = some (.slice pq pt.2.len pcap)) := Lib.hid fun W hb =>
        ⟨hc6 0 _ (by decide) rfl W hb, hc6 1 _ (by decide) rfl W hb, hc6 2 _ (by decide) rfl W hb, hc6 3 _ (by decide) rfl W hb, hc6 4 _ (by decide) rfl W hb, hc6 5 _ (by decide) rfl W hb, hc6 6 _ (by decide) rfl W hb, hc6 7 _ (by decide) rfl W hb, hc6 8 _ (by decide) rfl W hb, hc6 9 _ (by decide) rfl W hb⟩
      have hbx := below_box w6 (.cells (tmV pt.1 qx cx qy pt.2.len cy) 43)
      have hxx := World.alloc_heap_new w6 (.cells (tmV pt.1 qx cx qy pt.2.len cy) 43)
      have hrd : SlF w6 qx cx pt.1.ak ∧ TSl w6 qy cy pt.2 := ⟨oa5.1.slF oa5.2.1 oa5.2.2, ok5.tsl l5 m5⟩
      have HAK : Hid (∀ W, Below (w6.alloc (.cells (tmV pt.1 qx cx qy pt.2.len cy) 43)).heap.size (w6.alloc (.cells (tmV pt.1 qx cx qy pt.2.len cy) 43)) W → Calls Try.prog 40 #[.agg (tmV pt.1 qx cx qy pt.2.len cy), .agg (tmV pt.1 pqa pca pq pt.2.len pcap)] W fun e w' => e = .returned (.bool true) ∧ Below W.heap.size W w') := Lib.hid fun W hb => by
        have hbw := below_go2 HBW6.out (below_go2 hbx hb)
        have hb6W := below_go2 hbx hb
        have := TAlike_any (pt.2.size + 1) pt.1 pt.1 pt.2 pt.2 qx pqa cx pca qy pq cy pcap W (by omega) htok.1 htok.1 htok.2 htok.2 (hrd.1.below hb6W) (hok.1.below hbw) (hrd.2.below hb6W) (hok.2.below hbw)
        rw [talk_self] at this
        exact this
      have HBX := Lib.hid hbx
      have hiN' : (i : Int) < (N : Int) := by omega
      have hi0 : decide ((i : Int) < 0) = false := decide_eq_false (by omega)
      have hi1 : decide ((N : Int) ≤ (i : Int)) = false := decide_eq_false (by omega)
      have hc7 := HCELL.out (w6.alloc (.cells (tmV pt.1 qx cx qy pt.2.len cy) 43)) (below_go2 HB6.out hbx)
      obtain ⟨z0, z1, z2, z3, z4, z5, z6, z7, z8, z9⟩ := row10 hxx
      obtain ⟨y0, y1, y2, y3, y4, y5, y6, y7, y8, y9⟩ := hc7
      unfold tmV at HAK HBX z0 z1 z2 z3 z4 z5 z6 z7 z8 z9 y0 y1 y2 y3 y4 y5 y6 y7 y8 y9
      clear l5 m5 oa5 ok5 nd5 li5 hl hmem htok hps' hpv hok hcell hz6 hc6 hbx hxx hrd HOK HPK HPS
      unfold tmV
      go_wp2
      generalize w6.alloc (.cells #[.int .u8 pt.1.op, .string pt.1.name, .string pt.1.arg, .int .i64 pt.1.n, .bool pt.1.has, .int .u8 pt.1.ah.op, .string pt.1.ah.name, .int .i64 pt.1.ah.n, .slice qx pt.1.ak.len cx, .slice qy pt.2.len cy] 43) = wA at *
      have hi2 : (0 : Int) ≤ (i : Int) := Int.natCast_nonneg i
      have hi3 : ((i : Int)).toNat = i := rfl
      go_still_tail 7, (by kernel_rfl)
      change wpList _ _ _ _ _ (World.drew _)
      go_wp2_with (go_at_call 40; (with_reducible refine (HAK.out _ (Below.refl _ _).drew).mono ?_); rintro e w7 ⟨rfl, hb7⟩; have HB7 := Lib.hid hb7; clear hb7)
      go_ret
      exact ⟨rfl, below_go2 HBW6.out (below_go2 HBX.out (below_go2 (Below.refl _ _).drew HB7.out))⟩
    · have hnn : n < 0 ∨ (N : Int) ≤ n := by
        rcases Int.lt_or_le n 0 with h1 | h1
        · exact .inl h1
        · right
          have := hno n.toNat (by omega)
          rw [HLEN.out] at this; omega
      have hbx := below_box w6 (.cells zT10 43)
      have hxx := World.alloc_heap_new w6 (.cells zT10 43)
      have HAK : Hid (∀ W, Calls Try.prog 40 #[.agg zT10, .agg zT10] W fun e w' => e = .returned (.bool true) ∧ Below W.heap.size W w') := Lib.hid fun W => by
        have := TAlike_any 1 zTH zTH .nil .nil none none 0 0 none none 0 0 W (by decide) zTH_ok zTH_ok trivial trivial (sl_nil W) (sl_nil W) (tsl_nil W) (tsl_nil W)
        rw [talk_self] at this
        exact this
      have HBX := Lib.hid (below_go2 HBW6.out hbx)
      obtain ⟨z0, z1, z2, z3, z4, z5, z6, z7, z8, z9⟩ := row10 hxx
      clear hbx hxx hno HOK HPK HPS HG5 HG2
      rcases Int.lt_or_le n 0 with h1 | h1
      · have hi0 : decide (n < 0) = true := decide_eq_true h1
        go_wp2_with (go_at_call 40; (with_reducible refine (HAK.out _).mono ?_); rintro e w7 ⟨rfl, hb7⟩)
        go_ret
        exact ⟨rfl, below_go2 HBX.out hb7⟩
      · have hi0 : decide (n < 0) = false := decide_eq_false (by omega)
        have hi1 : decide ((N : Int) ≤ n) = true := decide_eq_true (hnn.resolve_left (by omega))
        go_wp2_with (go_at_call 40; (with_reducible refine (HAK.out _).mono ?_); rintro e w7 ⟨rfl, hb7⟩)
        go_ret
        exact ⟨rfl, below_go2 HBX.out hb7⟩
end Go.Proofs.Ytcjhgefkbnbmnaa
