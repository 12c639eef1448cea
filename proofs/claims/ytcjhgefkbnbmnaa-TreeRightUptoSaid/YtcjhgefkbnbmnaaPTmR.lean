/- tree.Right. -/
import Derived.Test.YtcjhgefkbnbmnaaPTmQ
namespace Go.Proofs.Ytcjhgefkbnbmnaa
open Go.RowKit Go.Shelf LM
set_option linter.unusedVariables false
attribute [local go_sem] Oper.semAt_some

/-- A node and its Kids fit. -/
def okT (t : TH × TF) : Bool := fitsT t.1 (t.2.toList.map fun t => t.1.op)
/-- Is it a right expression? -/
def trightB (h : TH) (k : TF) : Bool := decide (tsortT h.op = 1) && ((h, k) :: k.flat).all okT

set_option maxRecDepth 100000 in
set_option maxHeartbeats 2000000 in
theorem TRight_any (h : TH) (f : TF) (qa : Option Addr) (ca : Nat) (q : Option Addr) (cap : Nat) (w : World) (hh : h.ok) (hok : f.ok) (ha : SlF w qa ca h.ak) (hf : TSl w q cap f) (hsz : 1 + h.ak.size + f.bulk ≤ 1073741824) :
    Calls Try.prog 34 #[.agg (tmV h qa ca q f.len cap)] w fun e w' => e = .returned (.bool (trightB h f)) ∧ Below w.heap.size w w' := by
  refine (callsIn_wide (n := 9)).1 ?_
  have hst := tboxed_st w h f qa ca q cap ha hf
  have hall := length_lone 1 h f
  have hfb := TF.size_le_bulk f
  have hmap : (lflatL [(1, h, f)]).map Prod.snd = (h, f) :: f.flat := by rw [lflatL_one, map_lflat]; simp [TF.flat]
  have HP := Lib.hid nodes_any
  have HS := Lib.hid fun w => tsort_any h.op w
  have HR : Hid (trightB h f = (decide (tsortT h.op = 1) && (lflatL [(1, h, f)]).all fun x => okT x.2)) := Lib.hid (by unfold trightB; rw [← hmap, List.all_map]; rfl)
  have HMAP := Lib.hid hmap
  generalize trightB h f = r at *
  unfold tmV at *
  refine callsIn_of_wp_marks Try.func34 rfl trivial ?_ rfl
  simp only [Try.ntmps34, List.size_toArray, List.length_cons, List.length_nil, Nat.reduceAdd, Nat.reduceSub, Array.replicate_succ, Array.replicate_zero, List.push_toArray, List.append_toArray, List.nil_append, List.cons_append]
  have hx0 := World.alloc_heap_new w (.cells #[.int .u8 h.op, .string h.name, .string h.arg, .int .i64 h.n, .bool h.has, .int .u8 h.ah.op, .string h.ah.name, .int .i64 h.ah.n, .slice qa h.ak.len ca, .slice q f.len cap] 43)
  have hxx := ((below_box (w.alloc (.cells #[.int .u8 h.op, .string h.name, .string h.arg, .int .i64 h.n, .bool h.has, .int .u8 h.ah.op, .string h.ah.name, .int .i64 h.ah.n, .slice qa h.ak.len ca, .slice q f.len cap] 43)) (.cells #[.bool false] 4)).block _ (by simp)).trans hx0
  obtain ⟨x0, _⟩ := row10 hxx
  have hbx := World.alloc_heap_new (w.alloc (.cells #[.int .u8 h.op, .string h.name, .string h.arg, .int .i64 h.n, .bool h.has, .int .u8 h.ah.op, .string h.ah.name, .int .i64 h.ah.n, .slice qa h.ak.len ca, .slice q f.len cap] 43)) (.cells #[.bool false] 4)
  rw [World.size_alloc] at hbx
  have HXX := Lib.hid hxx
  have HBX := Lib.hid hbx
  have HBA := Lib.hid (below_box (w.alloc (.cells #[.int .u8 h.op, .string h.name, .string h.arg, .int .i64 h.n, .bool h.has, .int .u8 h.ah.op, .string h.ah.name, .int .i64 h.ah.n, .slice qa h.ak.len ca, .slice q f.len cap] 43)) (.cells #[.bool false] 4))
  clear hxx hbx hx0
  by_cases hs1 : tsortT h.op = 1
  case neg =>
    have e1 : (tsortT h.op != 1) = true := by simp [hs1]
    have HN : Hid (r = false) := Lib.hid (by rw [HR.out]; simp [hs1])
    clear hs1
    gi_wp2_with (refine ⟨trivial, ?_⟩; gi_at_call 73; refine (callsIn_wide.2 (HS.out _)).mono ?_; rintro e w1 ⟨rfl, hb1⟩; have HB1 := Lib.hid hb1; have hk : Boxed w1 (w.heap.size + 1) 4 (.bool false) := (hb1.block _ (Array.getElem?_eq_some_iff.1 HBX.out).1).trans HBX.out; have yk := hk.cell; have zk := hk.frozen; have HK := Lib.hid hk; clear hb1 hk)
    have hb0 : Below w.heap.size w (w1.setCell ⟨w.heap.size + 1, 0, none⟩ (.bool false)) := ((below_box _ _).trans ((HBA.out.mono (by simp)).trans (HB1.out.mono (by first | (simp; done) | (simp; omega))))).setCell (p := ⟨w.heap.size + 1, 0, none⟩) (by first | (simp; done) | (simp; omega)) _
    have hk2 := (HK.out.set (.bool false)).cell
    exact ⟨.bool false, by simp [results, Try.results34, go_sem, hk2], by rw [HN.out], hb0⟩
  have e1 : (tsortT h.op != 1) = false := by simp [hs1]
  have HR2 : Hid (r = (lflatL [(1, h, f)]).all fun x => okT x.2) := Lib.hid (by rw [HR.out]; simp [hs1])
  clear hs1
  gi_wp2_with (first
    | (refine ⟨trivial, ?_⟩; gi_at_call 73; refine (callsIn_wide.2 (HS.out _)).mono ?_; rintro e w1 ⟨rfl, hb1⟩; have HB1 := Lib.hid hb1; have hk : Boxed w1 (w.heap.size + 1) 4 (.bool false) := (hb1.block _ (Array.getElem?_eq_some_iff.1 HBX.out).1).trans HBX.out; have yk := hk.cell; have zk := hk.frozen; have HK := Lib.hid hk; clear hb1 hk)
    | (refine ⟨trivial, ?_⟩; gi_at_call 74; refine (callsIn_wide.2 (HP.out _ _)).mono ?_; rintro e w' ⟨rfl, rfl⟩))
  have hbA : Below (w.alloc (.cells #[.int .u8 h.op, .string h.name, .string h.arg, .int .i64 h.n, .bool h.has, .int .u8 h.ah.op, .string h.ah.name, .int .i64 h.ah.n, .slice qa h.ak.len ca, .slice q f.len cap] 43)).heap.size (w.alloc (.cells #[.int .u8 h.op, .string h.name, .string h.arg, .int .i64 h.n, .bool h.has, .int .u8 h.ah.op, .string h.ah.name, .int .i64 h.ah.n, .slice qa h.ak.len ca, .slice q f.len cap] 43)) w1 := HBA.out.trans (HB1.out.mono (by simp))
  have hb0 : Below w.heap.size w w1 := (below_box _ _).trans (hbA.mono (by simp))
  have hlt := HK.out.lt
  have HB0 := Lib.hid hb0
  have HLT := Lib.hid hlt
  refine range_look rfl (by omega) (Bn := w1.heap.size) rfl trivial (w.heap.size, 0) ?c1 rfl _ (hbA.alloc hbA.size _) (1, h, f) hst ?c3 ?c4
    (fun pre D W => Boxed W (w.heap.size + 1) 4 (.bool false) ∧ (pre.all fun x => okT x.2) = true) (fun c pre D W => c = .ret ∧ Boxed W (w.heap.size + 1) 4 (.bool false) ∧ r = false)
    (fun pre D X Y row hx hg hr => ⟨hx.1.kept hg (fun e => by have := (hr _ e.symm).1; simp at this; omega), hx.2⟩) (fun c pre D X Y row hx hg hr => ⟨hx.1, hx.2.1.kept hg (fun e => by have := (hr _ e.symm).1; simp at this; omega), hx.2.2⟩) ⟨HK.out.alloc _, rfl⟩
    (fun p => { tmps := #[.agg #[.int .u8 h.op, .string h.name, .string h.arg, .int .i64 h.n, .bool h.has, .int .u8 h.ah.op, .string h.ah.name, .int .i64 h.ah.n, .slice qa h.ak.len ca, .slice q f.len cap], .pointer (some ⟨w.heap.size, 0, none⟩), .pointer (some ⟨w.heap.size + 1, 0, none⟩), undef, .pointer (some ⟨p.2.1, p.2.2, none⟩), .pointer (some ⟨w.heap.size, 0, none⟩), .int .u8 h.op, .int .u8 (tsortT h.op), .bool false,
      .func (.func 98) #[] #[.pointer (some ⟨w1.heap.size, 0, none⟩)], .int .i64 p.1, .pointer (some ⟨p.2.1, p.2.2, none⟩), undef, undef, undef], defers := [] }) ?assign ?body ?done ?stop
  case assign =>
    intro l p W K hK
    gi_wp2
    simpa using hK
  case c1 => exact (Boxed.new w1 82 (.pointer (some ⟨w.heap.size, 0, none⟩))).cell
  case c3 => intro t ht; simp at ht; subst ht; exact ⟨hh, hok⟩
  case c4 => rw [hall]; omega
  case body =>
    rintro l pre x rest p D W he hB hp hlt2 hlv hx1 hx2 hW hD ⟨hbox, hpre⟩
    have hxb := lflatL_bulk (x := x) (h := h) (f := f) (by rw [he]; simp)
    have hxs := TF.size_le_bulk x.2.2
    have hxl := TF.len_le_size x.2.2
    obtain ⟨_, qx, cx, qk, ck, hth, hxa, hxt⟩ := hp
    have HF := Lib.hid (tfits_any p.2.1 p.2.2 x.2.1 x.2.2 qx cx qk ck W hx1 hth hxa hxt (by omega) (by omega))
    have hfx : fitsT x.2.1 (x.2.2.toList.map fun t => t.1.op) = okT x.2 := rfl
    rw [hfx] at HF
    have HBO := Lib.hid hbox
    have HHE := Lib.hid he
    have HPR := Lib.hid hpre
    have hWs : w1.heap.size + 1 ≤ W.heap.size := by simpa using hW
    clear hth hxa hxt hbox he hpre
    cases ho : okT x.2
    · rw [ho] at HF
      have HN : Hid (r = false) := Lib.hid (by rw [HR2.out, HHE.out]; simp [ho])
      clear ho
      gi_wp2_with (refine ⟨trivial, ?_⟩; gi_at_call 75; refine (CallsIn.inRound l (callsIn_wide.2 HF.out)).mono ?_; rintro e w2 ⟨rfl, hb2⟩; have hk2 : Boxed w2 (w.heap.size + 1) 4 (.bool false) := boxed_below HBO.out hb2; have yk2 := hk2.cell; have zk2 := hk2.frozen; have HK2 := Lib.hid hk2; have HB2 := Lib.hid hb2; clear hb2 hk2)
      have hs2 := HB2.out.size
      have hg := grownBy_setCell' w2 (w.heap.size + 1) (.bool false)
      refine ⟨D, (Tch.of_below HB2.out).trans (Tch.set _ (by simp; have := HLT.out; omega)), ?_, rfl, HK2.out.set _, HN.out⟩
      exact (HB2.out.mono (by simp; have := HLT.out; omega)).grown hg (by simp; have := HLT.out; omega) (fun r e => by have := Option.some.inj e; simp; omega)
    · rw [ho] at HF
      have HPX : Hid (((pre ++ [x]).all fun x => okT x.2) = true) := Lib.hid (by rw [List.all_append, HPR.out]; simp [ho])
      clear ho
      gi_wp2_with (refine ⟨trivial, ?_⟩; gi_at_call 75; refine (CallsIn.inRound l (callsIn_wide.2 HF.out)).mono ?_; rintro e w2 ⟨rfl, hb2⟩; have HB2 := Lib.hid hb2; clear hb2)
      exact ⟨D, Tch.of_below HB2.out, HB2.out.mono (by simp; have := HLT.out; omega), boxed_below HBO.out HB2.out, HPX.out⟩
  case done =>
    rintro K D W hK hDK hB ⟨hbox, hpre⟩ hKd
    have yk2 := hbox.cell
    have zk2 := hbox.frozen
    have HBO := Lib.hid hbox
    have HPR := Lib.hid hpre
    have HBB := Lib.hid hB
    clear hbox hpre hB
    gi_wp2
    have hKn : w1.heap.size + 1 ≤ K := by simpa using hK
    have hg := grownBy_setCell' W (w.heap.size + 1) (.bool true)
    have hKd' := (hg.block K (Array.getElem?_eq_some_iff.1 hKd).1 (by intro e; have := Option.some.inj e; have := HLT.out; omega)).trans hKd
    refine ⟨by simp, .inl ⟨_, _, rfl, run_takeDeferred hKd', ?_⟩⟩
    have hg2 := grownBy_putObj' (W.setCell ⟨w.heap.size + 1, 0, none⟩ (.bool true)) K (.deferred none)
    have hc2 := ((HBO.out.set (.bool true)).kept hg2 (by intro e; have := Option.some.inj e; have := HLT.out; omega)).cell
    have hB2 : Below w.heap.size w W := (below_box _ _).trans (HBB.out.mono (by simp))
    have hB3 := hB2.grown hg hB2.size (fun r e => by have := Option.some.inj e; omega)
    refine ⟨.bool true, by simp [results, Try.results34, go_sem, hc2], by rw [HR2.out, HPR.out], below_put hB3 hKd' (by have := HLT.out; omega)⟩
  case stop =>
    rintro K c pre rest D W hK hDK he hB ⟨rfl, hbox, hr⟩ hKd
    have yk2 := hbox.cell
    have HBO := Lib.hid hbox
    have HRR := Lib.hid hr
    have HBB := Lib.hid hB
    clear hbox hr hB
    gi_wp2
    refine ⟨by simp, .inl ⟨_, _, rfl, run_takeDeferred hKd, ?_⟩⟩
    have hKn : w1.heap.size + 1 ≤ K := by simpa using hK
    have hg2 := grownBy_putObj' W K (.deferred none)
    have hc2 := (HBO.out.kept hg2 (by intro e; have := Option.some.inj e; have := HLT.out; omega)).cell
    have hB2 : Below w.heap.size w W := (below_box _ _).trans (HBB.out.mono (by simp))
    refine ⟨.bool false, by simp [results, Try.results34, go_sem, hc2], by rw [HRR.out], below_put hB2 hKd (by have := HLT.out; omega)⟩
end Go.Proofs.Ytcjhgefkbnbmnaa
