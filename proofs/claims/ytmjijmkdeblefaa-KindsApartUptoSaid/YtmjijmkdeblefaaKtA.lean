/- flat and Flat, whatever the number of fields. -/
import Derived.Test.YtmjijmkdeblefaaKs
import Derived.Test.YtmjijmkdeblefaaKdQ
namespace Go.Proofs.Ytmjijmkdeblefaa
open Go.RowKit LM
set_option linter.unusedVariables false

theorem flat_bdm {n : Nat} (h : n + 1 ≤ 1099511627776) : n + 1 ≤ maxLen := by unfold maxLen; omega
theorem flat_bdm2 {n : Nat} (h : n + 1 ≤ 1099511627776) : (n + 1) * 72 ≤ 140737488355328 := by omega
set_option maxRecDepth 100000 in
set_option maxHeartbeats 2000000 in
theorem flat_any (h : Hd) (k : Fo) (q : Option Addr) (cap : Nat) (w : World) (fs : List Fld) (th : Hd) (tk : Fo) (tq : Option Addr) (tc : Nat) (hc : RowCh w h k q cap fs th tk tq tc) (hl : fs.length ≤ 1099511627776) :
    Calls Try.prog 72 #[.agg #[.int .u8 h.op, .string h.name, .int .i64 h.n, .slice q k.len cap]] w (FlatPost w fs th tk tq tc) := by
  have HC := Lib.hid hc
  obtain ⟨i0, hi, hz0, hz1, hz2⟩ := info_parts info37
  clear hc
  have hs : FlatI w fs [] fs h k q cap th tk tq tc (.slice none 0 0) ((w.alloc (.cells #[.int .u8 h.op, .string h.name, .int .i64 h.n, .slice q k.len cap] 25)).alloc (.cells #[.int .u8 0, .string ⟨#[]⟩, .int .i64 0, .slice none 0 0] 25)) := by
    have e1 := World.alloc_heap_new w (.cells #[.int .u8 h.op, .string h.name, .int .i64 h.n, .slice q k.len cap] 25)
    have e2 := World.alloc_heap_new (w.alloc (.cells #[.int .u8 h.op, .string h.name, .int .i64 h.n, .slice q k.len cap] 25)) (.cells #[.int .u8 0, .string ⟨#[]⟩, .int .i64 0, .slice none 0 0] 25)
    rw [World.size_alloc] at e2
    exact ⟨rfl, World.ownsRow_nil _ _ _ _, HC.out, ((below_box _ _).block _ (by simp)).trans e1, e2, ((Below.refl _ _).alloc (Nat.le_refl _) _).alloc (by simp) _, by simp⟩
  have HS := Lib.hid hs
  clear hs
  go_enter Try.func72, Try.ntmps72
  go_wp2
  go_loopg [4] fs.length (fun g v wr => ∃ pre rest h1 k1 q1 cap1, g = rest.length ∧ FlatI w fs pre rest h1 k1 q1 cap1 th tk tq tc v wr)
  case atStart => exact ⟨[], fs, h, k, q, cap, rfl, HS.out⟩
  case round =>
    obtain ⟨pre, rest, h1, k1, q1, cap1, hg, hI⟩ := hrel
    have hch := hI.ch
    cases hch with
    | stop hop hsl =>
      have hop' : (th.op == 11) = false := by simpa using hop
      obtain ⟨r0, r1, r2, r3, _⟩ := row4 hI.box
      have hpre : pre = fs := by have := hI.eq; simpa using this.symm
      subst hpre
      have HSRT := Lib.hid (sort_any wr (w.heap.size + 2) u4 pre hI.own hl)
      have HI := Lib.hid hI
      clear hI hop
      go_wp2_with (go_at_call 94; refine HSRT.out.mono ?_; rintro e w2 ⟨rfl, hp1, hp2⟩; have hb1 := (hp2.block _ (Array.getElem?_eq_some_iff.1 HI.out.box).1 (fun e => by have := (HI.out.own.lt _ e.symm).1; omega)).trans HI.out.box; have hb2 := (hp2.block _ (Array.getElem?_eq_some_iff.1 HI.out.res).1 (fun e => by have := (HI.out.own.lt _ e.symm).1; omega)).trans HI.out.res; obtain ⟨x0, x1, x2, x3, _⟩ := row4 hb1; obtain ⟨y0, y1, y2, y3, z0, z1, z2, z3⟩ := row4 hb2; have HB2 := Lib.hid hb2; have HP1 := Lib.hid hp1; have HP2 := Lib.hid hp2; clear hb1 hb2 hp1 hp2)
      go_region
      all_goals
        go_wp2
        have hg := set4_grown w2 (w.heap.size + 1) (.int .u8 th.op) (.string th.name) (.int .i64 th.n) (.slice tq tk.len tc)
        have hbk : ∀ r, u4.ownBlock = some r → w.heap.size + 2 ≤ r := fun r e => (HI.out.own.lt r e).1
        refine bodyPost_ret (v := .tuple #[u4, .agg #[.int .u8 th.op, .string th.name, .int .i64 th.n, .slice tq tk.len tc]]) (by simp [results, Try.results72, go_sem, y0, y1, y2, y3]) rfl ⟨u4, rfl, ?_, ?_⟩
        · refine own_base (World.ownsRow.drew (HP1.out.kept hg ?_)) (by omega)
          rcases hv : u4.ownBlock with _ | r
          · exact .inl rfl
          · right; intro e; have := hbk r hv; have := Option.some.inj e; omega
        · have hb2 : Below w.heap.size w w2 := HI.out.below.grown HP2.out HI.out.below.size (fun r e => by have := hbk r e; omega)
          have hb3 := hb2.grown hg hb2.size (fun r e => by have := Option.some.inj e; omega)
          exact hb3.trans ((Below.refl _ _).drew)
    | @step _ h0 h2 _ k0 k2 r _ q0 q2 _ b o _ cap0 cap2 _ fs2 hop hcap a0 a1 s0 s1 next =>
      have hop' : (h1.op == 11) = true := by simp [hop]
      have hL : 2 ≤ (Fo.cons h0 k0 (.cons h2 k2 r)).len := by simp [Fo.len]
      have hbox := hI.box
      generalize hLe : (Fo.cons h0 k0 (.cons h2 k2 r)).len = L at *
      obtain ⟨r0, r1, r2, r3, z0, z1, z2, z3⟩ := row4 hbox
      have hL0 : 0 < L := by omega
      have hL1 : 1 < L := by omega
      have hcm := hcap.2
      unfold maxLen at hcm
      have hlc := hcap.1
      have d0 := (a0.same (hI.below.block _ a0.lt)).c0
      have d1 := (a0.same (hI.below.block _ a0.lt)).c1
      have d2 := (a0.same (hI.below.block _ a0.lt)).c2
      have d3 := (a0.same (hI.below.block _ a0.lt)).c3
      have hlt := a0.lt
      have hpl : pre.length + 1 ≤ 1099511627776 := by have := congrArg List.length hI.eq; simp at this; omega
      have HI := Lib.hid hI
      have HN := Lib.hid next
      have HA0 := Lib.hid a0
      have HA1 := Lib.hid a1
      have HS0 := Lib.hid s0
      have hown := hI.own
      have hroom := hI.room
      rw [hop] at r0
      clear hI hop hop' next a0 a1 s0 s1 hbox
      go_wp2
      go_region_law ((refine step_append_own rfl (.tmp 8) (.tmp 16) 36 rfl (w.heap.size + 2) 40 i0 _ 5 72 Try.underlying36 hi hz0 hz1 hz2 rfl (by decide) _ _ _ rfl (World.ownsRow.drew (hown.alloc _)) ⟨wr.heap.size, 0, none⟩ 1 1 (Fld.enc ⟨h1.name, h0, q0, k0, cap0⟩) rfl rfl (cells_new wr (Fld.enc ⟨h1.name, h0, q0, k0, cap0⟩) 40) (fld_one _) (flat_bdm hpl) (flat_bdm2 hpl) (flat_bd3 hroom) ?_; intro v' w1 hown2 hgrow))
      all_goals
        obtain ⟨hnx, hbx1, hA⟩ := HI.out.grow (h2 := h2) (k2 := k2) (q2 := q2) (cap2 := cap2) hLe hown2 hgrow
        obtain ⟨x0, x1, x2, x3, t0, t1, t2, t3⟩ := row4 hbx1
        have a1' := HA1.out.same (hA.block _ HA1.out.lt)
        have b0 := a1'.c0
        have b1 := a1'.c1
        have b2 := a1'.c2
        have b3 := a1'.c3
        have HNX := Lib.hid hnx
        have HBX := Lib.hid hbx1
        clear hnx hbx1 hA a1' hown2 hgrow
        go_wp2
        go_roundg fs2.length
        case measure => simp [hg]
        case rel => exact ⟨_, fs2, h2, k2, q2, cap2, rfl, HNX.out HN.out⟩


set_option maxRecDepth 100000 in
theorem Flat_any (h : Hd) (k : Fo) (q : Option Addr) (cap : Nat) (w : World) (hh : h.ok) (hf : SlF w q cap k) (hok : k.ok) (hsz : 1 + k.size ≤ 1099511627776) (hr : rightB h k 2 = true) :
    Calls Try.prog 30 #[.agg #[.int .u8 h.op, .string h.name, .int .i64 h.n, .slice q k.len cap]] w (FlatR w h k) := by
  have HR := Lib.hid fun w' hb => Row_any h k q cap w' hh (hf.below (w := w) hb) hok hsz
  have HC := Lib.hid fun w' hb => copied_any h k q cap w' hh (hf.below (w := w) hb) hok hsz
  rw [hr] at HR
  have HO := Lib.hid (right_rowOK hr)
  clear hf hr
  go_enter Try.func30, Try.ntmps30
  go_wp2_with (go_at_call 71; refine (HR.out _ (((Below.refl _ _).alloc (Nat.le_refl _) _).alloc (by simp) _)).mono ?_; rintro e w1 ⟨rfl, hb1⟩; have hw1 := two_boxes hb1; clear hb1; obtain ⟨x0, x1, x2, x3, _⟩ := row4 hw1.2.1; have HW1 := Lib.hid hw1; clear hw1)
  refine (HC.out _ HW1.out.1).mono ?_
  rintro e w2 ⟨q', cap', F, rfl, hcp1, hcp2, hown, hnd, hF, hb2⟩
  obtain ⟨zs, th, tk, tq, tc, Ft, hch, heq, hzs, hft, htl, htm, _, hsub⟩ := RowCh.own k h q' cap' F HO.out hown hnd hcp1 hcp2
  have HZS := Lib.hid hzs
  have HFT := Lib.hid hft
  have HSUB := Lib.hid hsub
  have HF := Lib.hid hF
  clear hzs hft hsub
  obtain ⟨fs, hfs⟩ : ∃ fs, fs = zs.map Prod.fst := ⟨_, rfl⟩
  rw [← hfs] at hch heq
  have HFS := Lib.hid hfs
  clear hfs
  have hfl : fs.length ≤ 1099511627776 := by have := hch.len; omega
  have HCH := Lib.hid hch
  have HEQ := Lib.hid heq
  have HB2 := Lib.hid hb2
  clear hown hnd hF hch heq hb2
  go_wp2_with fail
  refine (flat_any h k q' cap' w2 fs th tk tq tc HCH.out hfl).mono ?_
  rintro e w3 ⟨v, rfl, hown3, hb3⟩
  have hres := (((HB2.out.trans (hb3.mono HB2.out.size)).block _ (by have := (Array.getElem?_eq_some_iff.1 HW1.out.2.2).1; omega)).trans HW1.out.2.2)
  obtain ⟨y0, y1, y2, y3, z0, z1, z2, z3⟩ := row4 hres
  have HRES := Lib.hid hres
  have HO3 := Lib.hid hown3
  have HB3 := Lib.hid hb3
  clear hres hown3 hb3
  go_wp2
  have hg := set4_grown w3 (w.heap.size + 1) (.int .u8 th.op) (.string th.name) (.int .i64 th.n) (.slice tq tk.len tc)
  have hb03 : Below w.heap.size w w3 := HW1.out.1.trans ((HB2.out.mono HW1.out.1.size).trans (HB3.out.mono (Nat.le_trans HW1.out.1.size HB2.out.size)))
  have hsz1 := (Array.getElem?_eq_some_iff.1 HW1.out.2.2).1
  have hsz2 := HB2.out.size
  have hblk : ∀ c ∈ F, (World.set4 w3 (w.heap.size + 1) (.int .u8 th.op) (.string th.name) (.int .i64 th.n) (.slice tq tk.len tc)).heap[c]? = w2.heap[c]? := fun c hc => by
    have h1 := HF.out c hc
    exact (hg.block c (by have := HB3.out.size; omega) (by intro e; have := Option.some.inj e; omega)).trans (HB3.out.block c h1.2)
  have hmf : ∀ f ∈ fs, SlF (World.set4 w3 (w.heap.size + 1) (.int .u8 th.op) (.string th.name) (.int .i64 th.n) (.slice tq tk.len tc)) f.q f.cap f.k := by
    intro f hf
    rw [HFS.out] at hf
    obtain ⟨z, hz, rfl⟩ := List.mem_map.1 hf
    obtain ⟨z1, z2, z3⟩ := HZS.out z hz
    exact (z1.keep (fun c hc => hblk c (HSUB.out c (List.mem_append_left _ (List.mem_flatMap.2 ⟨z, hz, hc⟩))))).slF z2 z3
  have hmt := (HFT.out.keep (fun c hc => hblk c (HSUB.out c (List.mem_append_right _ hc)))).slF htl htm
  refine bodyPost_ret (v := .tuple #[v, .agg #[.int .u8 th.op, .string th.name, .int .i64 th.n, .slice tq tk.len tc]]) (by simp [results, Try.results30, go_sem, y0, y1, y2, y3]) rfl ⟨v, fs, th, tk, tq, tc, rfl, ?_, HEQ.out, hmf, hmt, ?_⟩
  · refine own_base (HO3.out.kept hg ?_) (by omega)
    rcases hv : v.ownBlock with _ | r
    · exact .inl rfl
    · right; intro e; have := (HO3.out.lt r hv).1; have := Option.some.inj e; omega
  · exact hb03.grown hg hb03.size (fun r e => by have := Option.some.inj e; omega)

end Go.Proofs.Ytmjijmkdeblefaa
