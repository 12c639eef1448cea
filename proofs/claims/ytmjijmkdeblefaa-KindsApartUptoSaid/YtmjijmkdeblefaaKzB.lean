/- Put gives a tree of its own. -/
import Derived.Test.YtmjijmkdeblefaaKpE
import Derived.Test.YtmjijmkdeblefaaKdY
import Derived.Test.YtmjijmkdeblefaaKzA
namespace Go.Proofs.Ytmjijmkdeblefaa
open Go.RowKit Go.Shelf LM
set_option linter.unusedVariables false
attribute [local go_sem] Oper.semAt_some

theorem PutI.fin3 {Wm : World} {B0 : Nat} {F0 : List Nat} {f : Fo} {H : Hd} {K : Fo} {pl : List Pl} {L : Nat} {W W' : World} (h : PutI Wm B0 F0 f H K pl L W) (hL : pl.length = L) (hs : ∀ b, (b = B0 ∨ b ∈ F0 ∨ Wm.heap.size ≤ b) → b < W.heap.size → W'.heap[b]? = W.heap[b]?) :
    ∃ F, PT PendV W' f B0 0 [] [] F ∧ F.Nodup ∧ ∀ c ∈ F, (c ∈ F0 ∨ Wm.heap.size ≤ c) ∧ c < W.heap.size := by
  obtain ⟨F, hpt, hn, hF⟩ := h.pt
  subst hL
  rw [List.drop_length, Nat.sub_self] at hpt
  exact ⟨F, hpt.keep PendV.loc (fun i _ => cell_same (hs B0 (.inl rfl) h.row.lt) i) (fun c hc => hs c (.inr (hF c hc).1) (hF c hc).2), (List.nodup_cons.1 hn).2, hF⟩

set_option maxRecDepth 100000 in
set_option maxHeartbeats 4000000 in
theorem Put_own1 (op : Int) (hop : op = 7) (h : Hd) (k : Fo) (q : Option Addr) (cap : Nat) (n : Int) (H : Hd) (K : Fo) (Q : Option Addr) (C : Nat) (w : World) (hh : h.ok) (hs : SlF w q cap k) (hk : k.ok) (hsz : 1 + k.size ≤ 1099511627776)
    (hh' : H.ok) (hs' : SlF w Q C K) (hk' : K.ok) (hsz' : 1 + K.size ≤ 1099511627776) (hr1 : riB h k = true) (hr2 : riB H K = true) (hsort : sortO H.op = 1) :
    Calls Try.prog 28 #[.agg #[.int .u8 h.op, .string h.name, .int .i64 h.n, .slice q k.len cap], .int .i64 n, .agg #[.int .u8 H.op, .string H.name, .int .i64 H.n, .slice Q K.len C]] w (CopPost w (putT op n H K h k).1 (putT op n H K h k).2) := by
  refine (callsIn_wide (n := 9)).1 ?_
  have HC := Lib.hid fun w' (hb : Below w.heap.size w w') => copied_any h k q cap w' hh (hs.below hb) hk hsz
  have HC2 := Lib.hid fun w' (hb : Below w.heap.size w w') => copied_any H K Q C w' hh' (hs'.below hb) hk' hsz'
  have HR1 : Hid (∀ w', Below w.heap.size w w' → Calls Try.prog 54 #[.agg #[.int .u8 h.op, .string h.name, .int .i64 h.n, .slice q k.len cap]] w' fun e w'' => e = .returned (.bool true) ∧ Below w'.heap.size w' w'') :=
    Lib.hid fun w' hb => by rw [← hr1]; exact right_any h k q cap w' hh (hs.below hb) hk hsz
  have HR2 : Hid (∀ w', Below w.heap.size w w' → Calls Try.prog 54 #[.agg #[.int .u8 H.op, .string H.name, .int .i64 H.n, .slice Q K.len C]] w' fun e w'' => e = .returned (.bool true) ∧ Below w'.heap.size w' w'') :=
    Lib.hid fun w' hb => by rw [← hr2]; exact right_any H K Q C w' hh' (hs'.below hb) hk' hsz'
  have HSO : Hid (∀ w', Calls Try.prog 70 #[.int .u8 H.op] w' fun e w'' => e = .returned (.int .u8 1) ∧ w' = w'') := Lib.hid fun w' => by have := ksort_any H.op w' hh'.op0 hh'.op1; rw [hsort] at this; exact this
  have HFT := Lib.hid (riB_fits hr1)
  have HP := Lib.hid parts_any
  have HS := Lib.hid (PutB.start w h k q cap n H K Q C)
  have HHK := Lib.hid (And.intro hh hk)
  have hall := length_one h k
  have HSZ : Hid ((flatL [(h, k)]).length ≤ 1099511627776) := Lib.hid (by rw [hall]; exact hsz)
  clear hs hk hs' hk' hh hh' hsz hsz' hr1 hr2 hsort hall
  refine callsIn_of_wp_marks Try.func28 rfl trivial ?_ rfl
  simp only [Try.ntmps28, List.size_toArray, List.length_cons, List.length_nil, Nat.reduceAdd, Nat.reduceSub, Array.replicate_succ, Array.replicate_zero, List.push_toArray, List.append_toArray, List.nil_append, List.cons_append]
  gi_wp2_with fail
  refine ⟨trivial, ?_⟩
  refine (callsIn_wide.2 (HC.out _ HS.out.below)).mono ?_
  rintro e w1 ⟨q1, c1, F1, rfl, hl1, hm1, hown1, hnd1, hF1, hb1⟩
  have hS1 := HS.out.go hb1
  have hM : PutM w h k q cap n H K Q C op w1.heap.size q1 c1 F1 (w1.alloc (.cells #[.int .u8 h.op, .string h.name, .int .i64 h.n, .slice q1 k.len c1] 25)) := by
    have hB := below_box w1 (.cells #[.int .u8 h.op, .string h.name, .int .i64 h.n, .slice q1 k.len c1] 25)
    refine ⟨hS1.go hB, World.alloc_heap_new w1 _, hown1.keep (fun c hc => hB.block _ (hF1 c hc).2), List.nodup_cons.2 ⟨fun hc => by have := (hF1 _ hc).2; omega, hnd1⟩, fun c hc => ?_, hl1, hm1⟩
    have hro := hS1.room
    rcases List.mem_cons.1 hc with h1 | h1
    · subst h1; exact ⟨hro, by simp⟩
    · have := hF1 c h1; simp at this; exact ⟨by omega, by simp; omega⟩
  obtain ⟨a0, a1, a2, a3, _⟩ := row4 hS1.b0
  obtain ⟨d0, d1, d2, d3, _⟩ := row4 hS1.b2
  have hz1 : w.heap.size + 3 < w1.heap.size := hS1.room
  have hz0 : w.heap.size < w1.heap.size := by omega
  have hz2 : w.heap.size + 1 + 1 < w1.heap.size := by omega
  have HM := Lib.hid hM
  clear hS1 hF1 hb1 hM hown1 hnd1
  gi_wp2_with fail
  refine ⟨trivial, ?_⟩
  refine (callsIn_wide.2 (HR1.out _ HM.out.b.below)).mono ?_
  rintro e w3 ⟨rfl, hb3⟩
  have hM3 := HM.out.go hb3
  obtain ⟨a0, a1, a2, a3, _⟩ := row4 hM3.b.b0
  obtain ⟨d0, d1, d2, d3, _⟩ := row4 hM3.b.b2
  have HM3 := Lib.hid hM3
  clear hM3 hb3
  gi_wp2_with fail
  refine ⟨trivial, ?_⟩
  refine (callsIn_wide.2 (HR2.out _ HM3.out.b.below)).mono ?_
  rintro e w4 ⟨rfl, hb4⟩
  have hM4 := HM3.out.go hb4
  obtain ⟨a0, a1, a2, a3, _⟩ := row4 hM4.b.b0
  obtain ⟨d0, d1, d2, d3, _⟩ := row4 hM4.b.b2
  have hn1 := hM4.b.b1.cell
  have hro : w.heap.size + 3 < w4.heap.size := hM4.b.room
  have hz0 : w.heap.size < w4.heap.size := by omega
  have hz01 : w.heap.size + 1 < w4.heap.size := by omega
  have hz2 : w.heap.size + 1 + 1 < w4.heap.size := by omega
  have hzo := (hM4.big w1.heap.size (by simp)).2
  have HM4 := Lib.hid hM4
  clear hM4 hb4
  have HOP := Lib.hid hop
  clear hop
  gi_wp2_with (first | (refine ⟨trivial, ?_⟩; gi_at_call 70; refine (callsIn_wide.2 (HSO.out _)).mono ?_; rintro e w' ⟨rfl, rfl⟩) | (refine ⟨trivial, ?_⟩; gi_at_call 57; refine (callsIn_wide.2 (HP.out _ _)).mono ?_; rintro e w' ⟨rfl, rfl⟩))
  rw [← HOP.out]
  refine range_place rfl (by omega) (Bn := w4.heap.size + 1 + 1) rfl trivial (w1.heap.size, 0) ?c1 rfl w4 ?c2 (h, k) ?c3 ?c4 HSZ.out
    (fun pre D W => PlA op n w4.heap.size (w4.heap.size + 1) (w4.heap.size + 3) pre D W) ?hA ?c5 ?a1 ?assign ?body ?done
  case assign =>
    intro l p W K hK
    gi_wp2
    exact hK
  case c1 => exact Boxed.cell (by have := Boxed.new ((w4.alloc (.cells #[.int .u8 op] 22)).alloc (.cells #[.slice none 0 0] 69)) 64 (.pointer (some ⟨w1.heap.size, 0, none⟩)); simpa only [World.size_alloc] using this)
  case c2 => exact ((below_box w4 _).alloc (by simp) _).alloc (by simp; omega) _
  case c3 =>
    have ho := HM4.out.o
    refine ⟨⟨q1, c1, ⟨?_, ?_, ?_, ?_, hl1, hm1⟩, HM4.out.own.slF hl1 hm1⟩, trivial⟩ <;> simp [World.cell?, ho]
  case c4 => intro t ht; simp at ht; subst ht; exact HHK.out
  case hA => exact fun pre D X Y row hx hg hr => hx.kept hg (fun r e => by have := hr r e; simpa using this) (by omega) (by omega)
  case c5 =>
    have b1 := Boxed.new w4 22 (.int .u8 op)
    have b2 := Boxed.new (w4.alloc (.cells #[.int .u8 op] 22)) 69 (.slice none 0 0)
    rw [World.size_alloc] at b2
    exact ⟨_, b2.alloc _, World.ownsRow_nil _ _ _ _, (b1.alloc _).alloc _, fun g hg => by cases hg⟩
  case body =>
    rintro l pre x rest p D W he hB ⟨q2, cap2, hhd, hsl⟩ hlt hx1 hx2 hW hD hpa
    obtain ⟨v, hbp, hown, hbo, hvD⟩ := hpa
    obtain ⟨⟨xo, xn, xm⟩, xk⟩ := x
    have c0 := hhd.c0
    have c2 := hhd.c2
    have hn1 := (HM4.out.go hB).b.b1.cell
    have hpc := hbp.cell
    have hpf := hbp.frozen
    have hoc := hbo.cell
    have hrn := hx1.n0
    have hrn2 := hx1.n1
    have HX1 := Lib.hid hx1
    have HE := Lib.hid he
    have HPA : Hid (PlA op n w4.heap.size (w4.heap.size + 1) (w4.heap.size + 3) pre D W) := Lib.hid ⟨v, hbp, hown, hbo, hvD⟩
    have HO := Lib.hid hown
    have HVD := Lib.hid hvD
    have HBP := Lib.hid hbp
    have HBO := Lib.hid hbo
    clear he hbp hown hbo hvD hx1 hx2
    simp only at c0 c2
    have hno : ¬ (xo = op ∧ xm = n) → ∀ nq, ∃ D', Tch (w4.heap.size + 3) D D' W (W.drewN nq) ∧ Below w4.heap.size W (W.drewN nq) ∧ PlA op n w4.heap.size (w4.heap.size + 1) (w4.heap.size + 3) (pre ++ [(p, ((⟨xo, xn, xm⟩ : Hd), xk))]) D' (W.drewN nq) := fun hc nq => by
      have hg := grown_below (below_drewN (Below.refl W.heap.size W) nq)
      have hp2 := HPA.out.kept hg (fun r e => by cases e) (by omega) (by omega)
      refine ⟨D, Tch.grown hg (fun r e => by cases e), below_drewN (Below.refl _ _) nq, ?_⟩
      unfold PlA at hp2 ⊢
      rw [sel_append, sel_no hc, show sel op n [] = [] from rfl, List.append_nil]
      exact hp2
    have HNO := Lib.hid hno
    clear hno
    by_cases h1 : xo = op
    · subst h1
      by_cases h2 : xm = n
      · subst h2
        obtain ⟨i0, hi, hz0, hz1, hz2⟩ := info_parts info56
        obtain ⟨a, cp, rfl⟩ := own_value HO.out
        have hlen : (sel xo xm pre).length ≤ 1099511627776 := by
          have h1 := length_sel xo xm pre
          have h2 : (allL w4 [(w1.heap.size, 0)] [(h, k)]).length = (flatL [(h, k)]).length := by rw [← allL_snd w4 (st := [(w1.heap.size, 0)]) (ts := [(h, k)]) rfl, List.length_map]
          have h3 := HSZ.out
          rw [← h2, HE.out] at h3
          simp at h3; omega
        have hvd : ∀ g, (Value.slice a (sel xo xm pre).length cp).ownBlock = some g → D g ∧ w4.heap.size + 3 ≤ g := fun g hg => ⟨HVD.out g hg, (HO.out.lt g hg).1⟩
        have HVD2 := Lib.hid hvd
        have hW2 : w4.heap.size + 3 ≤ W.heap.size := by simpa using hW
        have hDW : ∀ b, D b → b < W.heap.size := hD
        have HD := Lib.hid hDW
        have hbo2 := HBO.out
        generalize hLd : (sel xo xm pre).length = L at *
        have HL := Lib.hid hLd
        clear hLd hvd hDW hD hbo2
        gi_wp2
        refine region_quiet_round rfl (by kernel_rfl) (by kernel_rfl) (noDefer_spec (by kernel_rfl)) ?_
        repeat (quiet_step_in (fail))
        refine wpQuietIn_nil ?_
        intro _ hw'
        obtain ⟨nq, hw''⟩ := hw'
        subst hw''
        have hown1 := own_grown HO.out (below_drewN (Below.refl W.heap.size W) nq)
        have hdz : (W.drewN nq).heap.size = W.heap.size := by simp
        have hk1 := cell_one_new (W.drewN nq) (.pointer (some ⟨p.1, p.2, none⟩)) 64
        rw [hdz] at hk1
        have HK1 := Lib.hid hk1
        have HDZ := Lib.hid hdz
        clear hk1
        clear hdz
        gi_wp2_with (gi_at_builtin; (refine wpListIn_append_own_at _ rfl (.tmp 44) (.tmp 46) 69 rfl (w4.heap.size + 3) 64 i0 (.pointer none) 1 8 Try.underlying69 hi hz0 hz1 hz2 rfl (by decide) _ _ _ rfl (hown1.alloc _) ⟨W.heap.size, 0, none⟩ 1 1 [.pointer (some ⟨p.1, p.2, none⟩)] rfl rfl HK1.out (by simp [Value.oneCell']) (by unfold maxLen; omega) (by omega) (by rw [World.size_alloc, HDZ.out]; omega) ?_); intro v' w5 hown2 hgrow _ hat; obtain ⟨a5, cp5, rfl⟩ := own_value hown2; go_loud (obtain ⟨hb5, hfin5⟩ := PlA.snoc (B := w4.heap.size) (xn := xn) (xk := xk) HL.out HBP.out HBO.out HVD2.out HD.out (by omega) (by omega) (by omega) (by omega) hW2 hown2 hgrow hat); have hc5 := hb5.cell; have hf5 := hb5.frozen; have HF5 := Lib.hid hfin5; clear hown2 hgrow hat hfin5)
        gi_wp2
        (show ∃ D', _); simp only [World.size_alloc]; exact HF5.out
      · have h2' : (xm == n) = false := by simpa using h2
        have HQ := Lib.hid (HNO.out (fun hc => h2 hc.2))
        clear h2
        gi_wp2
        refine region_quiet_round rfl (by kernel_rfl) (by kernel_rfl) (noDefer_spec (by kernel_rfl)) ?_
        repeat (quiet_step_in (fail))
        refine wpQuietIn_nil ?_
        intro _ hw'
        obtain ⟨nq, hw''⟩ := hw'
        subst hw''
        gi_wp2
        (show ∃ D', _); simp only [World.size_alloc]; exact HQ.out nq
    · have h1' : (xo == op) = false := by simpa using h1
      have HQ := Lib.hid (HNO.out (fun hc => h1 hc.1))
      clear h1
      gi_wp2
      refine region_quiet_round rfl (by kernel_rfl) (by kernel_rfl) (noDefer_spec (by kernel_rfl)) ?_
      repeat (quiet_step_in (fail))
      refine wpQuietIn_nil ?_
      intro _ hw'
      obtain ⟨nq, hw''⟩ := hw'
      subst hw''
      gi_wp2
      (show ∃ D', _); simp only [World.size_alloc]; exact HQ.out nq
  case done =>
    rintro K' D W hK hDK hB ⟨v, hbp, hown, hbo, hvD⟩ hKd
    have hM := HM4.out.go hB
    have hall : allL w4 [(w1.heap.size, 0)] [(h, k)] = allF w4 (.cons h k .nil) w1.heap.size 0 := by simp [allL, allF]
    have hvars : ∀ x ∈ (Fo.cons h k .nil).flat, x.1.op = op → x.1.n = n → x.2 = .nil := fun x hx ho _ => fits_var (HFT.out x hx) (by rw [ho, HOP.out]; rfl)
    have hpt0 : PT PendN w4 (.cons h k .nil) w1.heap.size 0 [] [] F1 := by
      have ho := HM4.out.o
      refine ⟨[], [], [], [], F1, [], rfl, rfl, by simp, ⟨rfl, rfl, rfl⟩, .inr ⟨q1, c1, ⟨?_, ?_, ?_, ?_, hl1, hm1⟩, ?_⟩⟩
      · simp [World.cell?, ho]
      · simp [World.cell?, ho]
      · simp [World.cell?, ho]
      · simp [World.cell?, ho]
      · rcases HM4.out.own with ⟨x1, x2⟩ | ⟨b', F', x1, x2, x3, x4⟩
        · exact .inl ⟨x1, rfl, rfl, x2⟩
        · exact .inr ⟨b', F', x1, x2, x3, x4⟩
    have hpt1 := (hpt0.sel (op := op) (n := n) H K hvars).keep PendV.loc (w' := W) (fun i _ => cell_same (hB.block _ (HM4.out.big w1.heap.size (by simp)).2) i) (fun c hc => hB.block _ (HM4.out.big c (by simp [hc])).2)
    rw [hall] at hown
    generalize hpl : sel op n (allF w4 (.cons h k .nil) w1.heap.size 0) = pl at hown hpt1
    have hz4 : w4.heap.size ≤ W.heap.size := hB.size
    have hK2 : w4.heap.size + 3 ≤ K' := by simpa using hK
    have hbig : ∀ c ∈ w1.heap.size :: F1, w.heap.size + 4 ≤ c ∧ c < w4.heap.size := HM4.out.big
    have hst : PutI W w1.heap.size F1 (Fo.putF op n H K (.cons h k .nil)) H K pl 0 W :=
      ⟨⟨F1, by simpa using hpt1, HM4.out.nd, fun c hc => ⟨.inl hc, by have := (hbig c (by simp [hc])).2; omega⟩⟩, ⟨_, hM.o⟩, fun _ _ _ _ => rfl, Below.refl _ _⟩
    obtain ⟨a, cp, rfl⟩ := own_value hown
    have hLs : pl.length ≤ 1099511627776 := by
      have h1 := length_sel op n (allF w4 (.cons h k .nil) w1.heap.size 0)
      have h2 : (allL w4 [(w1.heap.size, 0)] [(h, k)]).length = (flatL [(h, k)]).length := by rw [← allL_snd w4 (st := [(w1.heap.size, 0)]) (ts := [(h, k)]) rfl, List.length_map]
      have h3 := HSZ.out
      rw [hpl, ← hall, h2] at h1
      omega
    have hpc := hbp.cell
    have HST := Lib.hid hst
    have HOWN := Lib.hid hown
    have HMW := Lib.hid hM
    have HKD := Lib.hid hKd
    have HBG := Lib.hid hbig
    have HBB := Lib.hid hB
    have hKlt := (Array.getElem?_eq_some_iff.1 hKd).1
    clear hst hown hM hKd hbig hB hbp hbo hvD hall hvars hpt0 hpt1 hpl
    generalize hL : pl.length = L at *
    have HL := Lib.hid hL
    clear hL
    gi_wp2
    gi_loopw [50] (fun i wx => ∃ j : Nat, j ≤ L ∧ i = .int .i64 j ∧ PutI W w1.heap.size F1 (Fo.putF op n H K (.cons h k .nil)) H K pl j wx) (fun i _ => L - (intOf i).toNat)
    case atStart => exact ⟨0, Nat.zero_le _, rfl, HST.out⟩
    case round =>
      obtain ⟨j, hj, rfl, hI⟩ := hrel
      have HI := Lib.hid hI
      have hold := hI.old (N := w.heap.size + 4) (fun c hc => (HBG.out c hc).1) (by omega)
      have hbel : Below w.heap.size w wr := HMW.out.b.below.trans (hold.mono (by omega))
      have HBW := Lib.hid hbel
      have hb2 := (hold.block (w.heap.size + 1 + 1) (by omega)).trans HMW.out.b.b2
      obtain ⟨d0, d1, d2, d3, _⟩ := row4 hb2
      have hb3 := (hold.block (w.heap.size + 1 + 1 + 1) (by omega)).trans HMW.out.b.b3
      obtain ⟨y0, y1, y2, y3, z0, z1, z2, z3⟩ := row4 hb3
      clear hold hbel hb2 hb3
      by_cases hjL : j < L
      · have hjp : j < pl.length := by rw [HL.out]; exact hjL
        obtain ⟨g, cap', cur, hv, hgb, hgc, _, _, hcells⟩ := own_some HOWN.out (by omega)
        obtain ⟨rfl, _, rfl⟩ : a = some ⟨g, 0, none⟩ ∧ L = L ∧ cp = cap' := by simpa using hv
        have hpj : pl[j]? = some pl[j] := List.getElem?_eq_getElem hjp
        have hcj := hcells j (Pl.ptr pl[j]) (by simp [hpj])
        have hglt := (Array.getElem?_eq_some_iff.1 hgc).1
        have hgs := HI.out.same g hglt (fun e => by have := (HBG.out g (by simp [e])).2; omega) (fun hc => by have := (HBG.out g (by simp [hc])).2; omega)
        have hcj2 : wr.cell? ⟨g, j, none⟩ = some (.pointer (some ⟨pl[j].1, pl[j].2, none⟩)) := by
          have := (cell_same hgs (0 + j)).trans hcj
          rw [Nat.zero_add] at this
          exact this
        obtain ⟨⟨h0, q0, l0, p0, hh0⟩, hrb, hloc, hgo⟩ := HI.out.here hpj
        have e0 := hh0.c0
        have e1 := hh0.c1
        have e2 := hh0.c2
        have e3 := hh0.c3
        have hplt := hh0.lt
        have HRB := Lib.hid hrb
        have HGO := Lib.hid hgo
        clear hgo hrb hh0 hgs hcj hpj hcells hloc hv
        generalize pl[j] = p at *
        gi_wp2_with fail
        refine ⟨trivial, ?_⟩
        refine (callsIn_wide.2 (HC2.out _ HBW.out)).mono ?_
        rintro e w6 ⟨q', cap6, F', rfl, hl6, hm6, hown6, hnd6, hF6, hb6⟩
        have f0 := (hb6.cell (p := ⟨p.1, p.2, none⟩) hplt).trans e0
        have f1 := (hb6.cell (p := ⟨p.1, p.2 + 1, none⟩) hplt).trans e1
        have f2 := (hb6.cell (p := ⟨p.1, p.2 + 2, none⟩) hplt).trans e2
        have f3 := (hb6.cell (p := ⟨p.1, p.2 + 3, none⟩) hplt).trans e3
        have hr6 := HRB.out.same (hb6.block _ hplt)
        have r0 := hr6.frozen p.2
        have r1 := hr6.frozen (p.2 + 1)
        have r2 := hr6.frozen (p.2 + 2)
        have r3 := hr6.frozen (p.2 + 3)
        have HN := Lib.hid (HGO.out w6 q' cap6 F' hb6 hown6 hnd6 hF6 hl6 hm6 (by have := (HBG.out w1.heap.size (by simp)).2; omega))
        clear hb6 hown6 hnd6 hF6 hr6
        gi_wp2
        go_roundw
        case rel => exact ⟨j + 1, by omega, by go_num, HN.out⟩
        case measure => simp [intOf]; omega
      · have hje : j = L := by omega
        have hI2 := HI.out
        rw [hje] at hI2
        have hfo := hI2.fin2 HL.out (W' := wr) (fun _ _ _ => rfl)
        rw [put_one] at hfo
        obtain ⟨q', cap', hh', _⟩ := fo_one hfo
        have g0 := hh'.c0
        have g1 := hh'.c1
        have g2 := hh'.c2
        have g3 := hh'.c3
        simp only [Nat.zero_add] at g0 g1 g2 g3
        have hl' := hh'.lc
        have hm' := hh'.cm
        have HI2 := Lib.hid hI2
        have HH := Lib.hid hh'
        have hKr : wr.heap[K']? = some (.deferred (some [])) := (hI2.same K' hKlt (fun e => by have := (HBG.out K' (by simp [e])).2; omega) (fun hc => by have := (HBG.out K' (by simp [hc])).2; omega)).trans HKD.out
        have hb3 := ((hI2.old (N := w.heap.size + 4) (fun c hc => (HBG.out c hc).1) (by omega)).block (w.heap.size + 1 + 1 + 1) (by omega)).trans HMW.out.b.b3
        have HKR := Lib.hid hKr
        have HB3 := Lib.hid hb3
        have hws : W.heap.size ≤ wr.heap.size := hI2.low.size
        clear hje hI2 hfo hh' hKr hb3
        have hw4 : w.heap.size + 4 ≤ w4.heap.size := HM4.out.b.room
        gi_wp2
        generalize hT : putT op n H K h k = T at *
        have hg := set4_grown wr (w.heap.size + 1 + 1 + 1) (.int .u8 T.1.op) (.string T.1.name) (.int .i64 T.1.n) (.slice q' T.2.len cap')
        have hrow := set4_row HB3.out (.int .u8 T.1.op) (.string T.1.name) (.int .i64 T.1.n) (.slice q' T.2.len cap')
        have hKd' := (hg.block K' (Array.getElem?_eq_some_iff.1 HKR.out).1 (by intro e; have := Option.some.inj e; omega)).trans HKR.out
        refine ⟨by simp, .inl ⟨_, _, rfl, run_takeDeferred hKd', ?_⟩⟩
        have hg2 := grownBy_putObj' (World.set4 wr (w.heap.size + 1 + 1 + 1) (.int .u8 T.1.op) (.string T.1.name) (.int .i64 T.1.n) (.slice q' T.2.len cap')) K' (.deferred none)
        have hrow2 := (hg2.block _ (Array.getElem?_eq_some_iff.1 hrow).1 (by intro e; have := Option.some.inj e; omega)).trans hrow
        refine ⟨_, results_cell_row rfl _ _ _ _ _ _ (.struct _) rfl hrow2 Try.underlying25 rfl (by kernel_rfl), ?_⟩
        obtain ⟨F9, hp9, hn9, hF9⟩ := HI2.out.fin3 (W' := (World.set4 wr (w.heap.size + 1 + 1 + 1) (.int .u8 T.1.op) (.string T.1.name) (.int .i64 T.1.n) (.slice q' T.2.len cap')).putObj K' (.deferred none)) HL.out (fun b hb hlt => by
          have hne1 : b ≠ w.heap.size + 1 + 1 + 1 := fun e => by
            rcases hb with h1 | h1 | h1
            · have := (HBG.out b (by simp [h1])).1; omega
            · have := (HBG.out b (by simp [h1])).1; omega
            · omega
          have hne2 : b ≠ K' := fun e => by
            rcases hb with h1 | h1 | h1
            · have := (HBG.out b (by simp [h1])).2; omega
            · have := (HBG.out b (by simp [h1])).2; omega
            · omega
          exact (hg2.block b (Nat.lt_of_lt_of_le hlt hg.size) (fun e => hne2 (Option.some.inj e))).trans (hg.block b hlt (fun e => hne1 (Option.some.inj e))))
        rw [put_one, hT] at hp9
        obtain ⟨q2, cap2, F8, F7, hh2, hs2, rfl, _⟩ := (PT.any (Pend' := PendN) hp9).un
        have hB0 : ((World.set4 wr (w.heap.size + 1 + 1 + 1) (.int .u8 T.1.op) (.string T.1.name) (.int .i64 T.1.n) (.slice q' T.2.len cap')).putObj K' (.deferred none)).heap[w1.heap.size]? = wr.heap[w1.heap.size]? := by
          have hb := HBG.out w1.heap.size (by simp)
          have hl := HH.out.lt
          exact (hg2.block _ (Nat.lt_of_lt_of_le hl hg.size) (fun e => by have := Option.some.inj e; omega)).trans (hg.block _ hl (fun e => by have := Option.some.inj e; omega))
        have e3 := (cell_same hB0 (0 + 3)).symm.trans hh2.c3
        rw [HH.out.c3] at e3
        obtain ⟨rfl, rfl⟩ : q' = q2 ∧ cap' = cap2 := by simpa using e3
        have hroom := HMW.out.b.room
        refine ⟨q', cap', F8, rfl, hl', hm', hs2, (List.nodup_append.1 hn9).1, fun c hc => ?_, ?_⟩
        · have h9 := hF9 c (by simp [hc])
          refine ⟨?_, Nat.lt_of_lt_of_le h9.2 (Nat.le_trans hg.size hg2.size)⟩
          rcases h9.1 with h8 | h8
          · have := (HBG.out c (by simp [h8])).1; omega
          · omega
        have hbw := HMW.out.b.below.trans ((HI2.out.old (N := w.heap.size + 4) (fun c hc => (HBG.out c hc).1) (by omega)).mono (by omega))
        exact (hbw.grown hg hbw.size (fun r e => by have := Option.some.inj e; omega)).grown hg2 (Nat.le_trans hbw.size hg.size) (fun r e => by have := Option.some.inj e; omega)
set_option maxRecDepth 100000 in
set_option maxHeartbeats 4000000 in
theorem Put_own2 (op : Int) (hop : op = 10) (h : Hd) (k : Fo) (q : Option Addr) (cap : Nat) (n : Int) (H : Hd) (K : Fo) (Q : Option Addr) (C : Nat) (w : World) (hh : h.ok) (hs : SlF w q cap k) (hk : k.ok) (hsz : 1 + k.size ≤ 1099511627776)
    (hh' : H.ok) (hs' : SlF w Q C K) (hk' : K.ok) (hsz' : 1 + K.size ≤ 1099511627776) (hr1 : riB h k = true) (hr2 : riB H K = true) (hsort : sortO H.op = 2) :
    Calls Try.prog 28 #[.agg #[.int .u8 h.op, .string h.name, .int .i64 h.n, .slice q k.len cap], .int .i64 n, .agg #[.int .u8 H.op, .string H.name, .int .i64 H.n, .slice Q K.len C]] w (CopPost w (putT op n H K h k).1 (putT op n H K h k).2) := by
  refine (callsIn_wide (n := 9)).1 ?_
  have HC := Lib.hid fun w' (hb : Below w.heap.size w w') => copied_any h k q cap w' hh (hs.below hb) hk hsz
  have HC2 := Lib.hid fun w' (hb : Below w.heap.size w w') => copied_any H K Q C w' hh' (hs'.below hb) hk' hsz'
  have HR1 : Hid (∀ w', Below w.heap.size w w' → Calls Try.prog 54 #[.agg #[.int .u8 h.op, .string h.name, .int .i64 h.n, .slice q k.len cap]] w' fun e w'' => e = .returned (.bool true) ∧ Below w'.heap.size w' w'') :=
    Lib.hid fun w' hb => by rw [← hr1]; exact right_any h k q cap w' hh (hs.below hb) hk hsz
  have HR2 : Hid (∀ w', Below w.heap.size w w' → Calls Try.prog 54 #[.agg #[.int .u8 H.op, .string H.name, .int .i64 H.n, .slice Q K.len C]] w' fun e w'' => e = .returned (.bool true) ∧ Below w'.heap.size w' w'') :=
    Lib.hid fun w' hb => by rw [← hr2]; exact right_any H K Q C w' hh' (hs'.below hb) hk' hsz'
  have HSO : Hid (∀ w', Calls Try.prog 70 #[.int .u8 H.op] w' fun e w'' => e = .returned (.int .u8 2) ∧ w' = w'') := Lib.hid fun w' => by have := ksort_any H.op w' hh'.op0 hh'.op1; rw [hsort] at this; exact this
  have HFT := Lib.hid (riB_fits hr1)
  have HP := Lib.hid parts_any
  have HS := Lib.hid (PutB.start w h k q cap n H K Q C)
  have HHK := Lib.hid (And.intro hh hk)
  have hall := length_one h k
  have HSZ : Hid ((flatL [(h, k)]).length ≤ 1099511627776) := Lib.hid (by rw [hall]; exact hsz)
  clear hs hk hs' hk' hh hh' hsz hsz' hr1 hr2 hsort hall
  refine callsIn_of_wp_marks Try.func28 rfl trivial ?_ rfl
  simp only [Try.ntmps28, List.size_toArray, List.length_cons, List.length_nil, Nat.reduceAdd, Nat.reduceSub, Array.replicate_succ, Array.replicate_zero, List.push_toArray, List.append_toArray, List.nil_append, List.cons_append]
  gi_wp2_with fail
  refine ⟨trivial, ?_⟩
  refine (callsIn_wide.2 (HC.out _ HS.out.below)).mono ?_
  rintro e w1 ⟨q1, c1, F1, rfl, hl1, hm1, hown1, hnd1, hF1, hb1⟩
  have hS1 := HS.out.go hb1
  have hM : PutM w h k q cap n H K Q C op w1.heap.size q1 c1 F1 (w1.alloc (.cells #[.int .u8 h.op, .string h.name, .int .i64 h.n, .slice q1 k.len c1] 25)) := by
    have hB := below_box w1 (.cells #[.int .u8 h.op, .string h.name, .int .i64 h.n, .slice q1 k.len c1] 25)
    refine ⟨hS1.go hB, World.alloc_heap_new w1 _, hown1.keep (fun c hc => hB.block _ (hF1 c hc).2), List.nodup_cons.2 ⟨fun hc => by have := (hF1 _ hc).2; omega, hnd1⟩, fun c hc => ?_, hl1, hm1⟩
    have hro := hS1.room
    rcases List.mem_cons.1 hc with h1 | h1
    · subst h1; exact ⟨hro, by simp⟩
    · have := hF1 c h1; simp at this; exact ⟨by omega, by simp; omega⟩
  obtain ⟨a0, a1, a2, a3, _⟩ := row4 hS1.b0
  obtain ⟨d0, d1, d2, d3, _⟩ := row4 hS1.b2
  have hz1 : w.heap.size + 3 < w1.heap.size := hS1.room
  have hz0 : w.heap.size < w1.heap.size := by omega
  have hz2 : w.heap.size + 1 + 1 < w1.heap.size := by omega
  have HM := Lib.hid hM
  clear hS1 hF1 hb1 hM hown1 hnd1
  gi_wp2_with fail
  refine ⟨trivial, ?_⟩
  refine (callsIn_wide.2 (HR1.out _ HM.out.b.below)).mono ?_
  rintro e w3 ⟨rfl, hb3⟩
  have hM3 := HM.out.go hb3
  obtain ⟨a0, a1, a2, a3, _⟩ := row4 hM3.b.b0
  obtain ⟨d0, d1, d2, d3, _⟩ := row4 hM3.b.b2
  have HM3 := Lib.hid hM3
  clear hM3 hb3
  gi_wp2_with fail
  refine ⟨trivial, ?_⟩
  refine (callsIn_wide.2 (HR2.out _ HM3.out.b.below)).mono ?_
  rintro e w4 ⟨rfl, hb4⟩
  have hM4 := HM3.out.go hb4
  obtain ⟨a0, a1, a2, a3, _⟩ := row4 hM4.b.b0
  obtain ⟨d0, d1, d2, d3, _⟩ := row4 hM4.b.b2
  have hn1 := hM4.b.b1.cell
  have hro : w.heap.size + 3 < w4.heap.size := hM4.b.room
  have hz0 : w.heap.size < w4.heap.size := by omega
  have hz01 : w.heap.size + 1 < w4.heap.size := by omega
  have hz2 : w.heap.size + 1 + 1 < w4.heap.size := by omega
  have hzo := (hM4.big w1.heap.size (by simp)).2
  have HM4 := Lib.hid hM4
  clear hM4 hb4
  have HOP := Lib.hid hop
  clear hop
  gi_wp2_with (first | (refine ⟨trivial, ?_⟩; gi_at_call 70; refine (callsIn_wide.2 (HSO.out _)).mono ?_; rintro e w' ⟨rfl, rfl⟩) | (refine ⟨trivial, ?_⟩; gi_at_call 57; refine (callsIn_wide.2 (HP.out _ _)).mono ?_; rintro e w' ⟨rfl, rfl⟩))
  rw [← HOP.out]
  refine range_place rfl (by omega) (Bn := w4.heap.size + 1 + 1) rfl trivial (w1.heap.size, 0) ?c1 rfl w4 ?c2 (h, k) ?c3 ?c4 HSZ.out
    (fun pre D W => PlA op n w4.heap.size (w4.heap.size + 1) (w4.heap.size + 3) pre D W) ?hA ?c5 ?a1 ?assign ?body ?done
  case assign =>
    intro l p W K hK
    gi_wp2
    exact hK
  case c1 => exact Boxed.cell (by have := Boxed.new ((w4.alloc (.cells #[.int .u8 op] 22)).alloc (.cells #[.slice none 0 0] 69)) 64 (.pointer (some ⟨w1.heap.size, 0, none⟩)); simpa only [World.size_alloc] using this)
  case c2 => exact ((below_box w4 _).alloc (by simp) _).alloc (by simp; omega) _
  case c3 =>
    have ho := HM4.out.o
    refine ⟨⟨q1, c1, ⟨?_, ?_, ?_, ?_, hl1, hm1⟩, HM4.out.own.slF hl1 hm1⟩, trivial⟩ <;> simp [World.cell?, ho]
  case c4 => intro t ht; simp at ht; subst ht; exact HHK.out
  case hA => exact fun pre D X Y row hx hg hr => hx.kept hg (fun r e => by have := hr r e; simpa using this) (by omega) (by omega)
  case c5 =>
    have b1 := Boxed.new w4 22 (.int .u8 op)
    have b2 := Boxed.new (w4.alloc (.cells #[.int .u8 op] 22)) 69 (.slice none 0 0)
    rw [World.size_alloc] at b2
    exact ⟨_, b2.alloc _, World.ownsRow_nil _ _ _ _, (b1.alloc _).alloc _, fun g hg => by cases hg⟩
  case body =>
    rintro l pre x rest p D W he hB ⟨q2, cap2, hhd, hsl⟩ hlt hx1 hx2 hW hD hpa
    obtain ⟨v, hbp, hown, hbo, hvD⟩ := hpa
    obtain ⟨⟨xo, xn, xm⟩, xk⟩ := x
    have c0 := hhd.c0
    have c2 := hhd.c2
    have hn1 := (HM4.out.go hB).b.b1.cell
    have hpc := hbp.cell
    have hpf := hbp.frozen
    have hoc := hbo.cell
    have hrn := hx1.n0
    have hrn2 := hx1.n1
    have HX1 := Lib.hid hx1
    have HE := Lib.hid he
    have HPA : Hid (PlA op n w4.heap.size (w4.heap.size + 1) (w4.heap.size + 3) pre D W) := Lib.hid ⟨v, hbp, hown, hbo, hvD⟩
    have HO := Lib.hid hown
    have HVD := Lib.hid hvD
    have HBP := Lib.hid hbp
    have HBO := Lib.hid hbo
    clear he hbp hown hbo hvD hx1 hx2
    simp only at c0 c2
    have hno : ¬ (xo = op ∧ xm = n) → ∀ nq, ∃ D', Tch (w4.heap.size + 3) D D' W (W.drewN nq) ∧ Below w4.heap.size W (W.drewN nq) ∧ PlA op n w4.heap.size (w4.heap.size + 1) (w4.heap.size + 3) (pre ++ [(p, ((⟨xo, xn, xm⟩ : Hd), xk))]) D' (W.drewN nq) := fun hc nq => by
      have hg := grown_below (below_drewN (Below.refl W.heap.size W) nq)
      have hp2 := HPA.out.kept hg (fun r e => by cases e) (by omega) (by omega)
      refine ⟨D, Tch.grown hg (fun r e => by cases e), below_drewN (Below.refl _ _) nq, ?_⟩
      unfold PlA at hp2 ⊢
      rw [sel_append, sel_no hc, show sel op n [] = [] from rfl, List.append_nil]
      exact hp2
    have HNO := Lib.hid hno
    clear hno
    by_cases h1 : xo = op
    · subst h1
      by_cases h2 : xm = n
      · subst h2
        obtain ⟨i0, hi, hz0, hz1, hz2⟩ := info_parts info56
        obtain ⟨a, cp, rfl⟩ := own_value HO.out
        have hlen : (sel xo xm pre).length ≤ 1099511627776 := by
          have h1 := length_sel xo xm pre
          have h2 : (allL w4 [(w1.heap.size, 0)] [(h, k)]).length = (flatL [(h, k)]).length := by rw [← allL_snd w4 (st := [(w1.heap.size, 0)]) (ts := [(h, k)]) rfl, List.length_map]
          have h3 := HSZ.out
          rw [← h2, HE.out] at h3
          simp at h3; omega
        have hvd : ∀ g, (Value.slice a (sel xo xm pre).length cp).ownBlock = some g → D g ∧ w4.heap.size + 3 ≤ g := fun g hg => ⟨HVD.out g hg, (HO.out.lt g hg).1⟩
        have HVD2 := Lib.hid hvd
        have hW2 : w4.heap.size + 3 ≤ W.heap.size := by simpa using hW
        have hDW : ∀ b, D b → b < W.heap.size := hD
        have HD := Lib.hid hDW
        have hbo2 := HBO.out
        generalize hLd : (sel xo xm pre).length = L at *
        have HL := Lib.hid hLd
        clear hLd hvd hDW hD hbo2
        gi_wp2
        refine region_quiet_round rfl (by kernel_rfl) (by kernel_rfl) (noDefer_spec (by kernel_rfl)) ?_
        repeat (quiet_step_in (fail))
        refine wpQuietIn_nil ?_
        intro _ hw'
        obtain ⟨nq, hw''⟩ := hw'
        subst hw''
        have hown1 := own_grown HO.out (below_drewN (Below.refl W.heap.size W) nq)
        have hdz : (W.drewN nq).heap.size = W.heap.size := by simp
        have hk1 := cell_one_new (W.drewN nq) (.pointer (some ⟨p.1, p.2, none⟩)) 64
        rw [hdz] at hk1
        have HK1 := Lib.hid hk1
        have HDZ := Lib.hid hdz
        clear hk1
        clear hdz
        gi_wp2_with (gi_at_builtin; (refine wpListIn_append_own_at _ rfl (.tmp 44) (.tmp 46) 69 rfl (w4.heap.size + 3) 64 i0 (.pointer none) 1 8 Try.underlying69 hi hz0 hz1 hz2 rfl (by decide) _ _ _ rfl (hown1.alloc _) ⟨W.heap.size, 0, none⟩ 1 1 [.pointer (some ⟨p.1, p.2, none⟩)] rfl rfl HK1.out (by simp [Value.oneCell']) (by unfold maxLen; omega) (by omega) (by rw [World.size_alloc, HDZ.out]; omega) ?_); intro v' w5 hown2 hgrow _ hat; obtain ⟨a5, cp5, rfl⟩ := own_value hown2; go_loud (obtain ⟨hb5, hfin5⟩ := PlA.snoc (B := w4.heap.size) (xn := xn) (xk := xk) HL.out HBP.out HBO.out HVD2.out HD.out (by omega) (by omega) (by omega) (by omega) hW2 hown2 hgrow hat); have hc5 := hb5.cell; have hf5 := hb5.frozen; have HF5 := Lib.hid hfin5; clear hown2 hgrow hat hfin5)
        gi_wp2
        (show ∃ D', _); simp only [World.size_alloc]; exact HF5.out
      · have h2' : (xm == n) = false := by simpa using h2
        have HQ := Lib.hid (HNO.out (fun hc => h2 hc.2))
        clear h2
        gi_wp2
        refine region_quiet_round rfl (by kernel_rfl) (by kernel_rfl) (noDefer_spec (by kernel_rfl)) ?_
        repeat (quiet_step_in (fail))
        refine wpQuietIn_nil ?_
        intro _ hw'
        obtain ⟨nq, hw''⟩ := hw'
        subst hw''
        gi_wp2
        (show ∃ D', _); simp only [World.size_alloc]; exact HQ.out nq
    · have h1' : (xo == op) = false := by simpa using h1
      have HQ := Lib.hid (HNO.out (fun hc => h1 hc.1))
      clear h1
      gi_wp2
      refine region_quiet_round rfl (by kernel_rfl) (by kernel_rfl) (noDefer_spec (by kernel_rfl)) ?_
      repeat (quiet_step_in (fail))
      refine wpQuietIn_nil ?_
      intro _ hw'
      obtain ⟨nq, hw''⟩ := hw'
      subst hw''
      gi_wp2
      (show ∃ D', _); simp only [World.size_alloc]; exact HQ.out nq
  case done =>
    rintro K' D W hK hDK hB ⟨v, hbp, hown, hbo, hvD⟩ hKd
    have hM := HM4.out.go hB
    have hall : allL w4 [(w1.heap.size, 0)] [(h, k)] = allF w4 (.cons h k .nil) w1.heap.size 0 := by simp [allL, allF]
    have hvars : ∀ x ∈ (Fo.cons h k .nil).flat, x.1.op = op → x.1.n = n → x.2 = .nil := fun x hx ho _ => fits_var (HFT.out x hx) (by rw [ho, HOP.out]; rfl)
    have hpt0 : PT PendN w4 (.cons h k .nil) w1.heap.size 0 [] [] F1 := by
      have ho := HM4.out.o
      refine ⟨[], [], [], [], F1, [], rfl, rfl, by simp, ⟨rfl, rfl, rfl⟩, .inr ⟨q1, c1, ⟨?_, ?_, ?_, ?_, hl1, hm1⟩, ?_⟩⟩
      · simp [World.cell?, ho]
      · simp [World.cell?, ho]
      · simp [World.cell?, ho]
      · simp [World.cell?, ho]
      · rcases HM4.out.own with ⟨x1, x2⟩ | ⟨b', F', x1, x2, x3, x4⟩
        · exact .inl ⟨x1, rfl, rfl, x2⟩
        · exact .inr ⟨b', F', x1, x2, x3, x4⟩
    have hpt1 := (hpt0.sel (op := op) (n := n) H K hvars).keep PendV.loc (w' := W) (fun i _ => cell_same (hB.block _ (HM4.out.big w1.heap.size (by simp)).2) i) (fun c hc => hB.block _ (HM4.out.big c (by simp [hc])).2)
    rw [hall] at hown
    generalize hpl : sel op n (allF w4 (.cons h k .nil) w1.heap.size 0) = pl at hown hpt1
    have hz4 : w4.heap.size ≤ W.heap.size := hB.size
    have hK2 : w4.heap.size + 3 ≤ K' := by simpa using hK
    have hbig : ∀ c ∈ w1.heap.size :: F1, w.heap.size + 4 ≤ c ∧ c < w4.heap.size := HM4.out.big
    have hst : PutI W w1.heap.size F1 (Fo.putF op n H K (.cons h k .nil)) H K pl 0 W :=
      ⟨⟨F1, by simpa using hpt1, HM4.out.nd, fun c hc => ⟨.inl hc, by have := (hbig c (by simp [hc])).2; omega⟩⟩, ⟨_, hM.o⟩, fun _ _ _ _ => rfl, Below.refl _ _⟩
    obtain ⟨a, cp, rfl⟩ := own_value hown
    have hLs : pl.length ≤ 1099511627776 := by
      have h1 := length_sel op n (allF w4 (.cons h k .nil) w1.heap.size 0)
      have h2 : (allL w4 [(w1.heap.size, 0)] [(h, k)]).length = (flatL [(h, k)]).length := by rw [← allL_snd w4 (st := [(w1.heap.size, 0)]) (ts := [(h, k)]) rfl, List.length_map]
      have h3 := HSZ.out
      rw [hpl, ← hall, h2] at h1
      omega
    have hpc := hbp.cell
    have HST := Lib.hid hst
    have HOWN := Lib.hid hown
    have HMW := Lib.hid hM
    have HKD := Lib.hid hKd
    have HBG := Lib.hid hbig
    have HBB := Lib.hid hB
    have hKlt := (Array.getElem?_eq_some_iff.1 hKd).1
    clear hst hown hM hKd hbig hB hbp hbo hvD hall hvars hpt0 hpt1 hpl
    generalize hL : pl.length = L at *
    have HL := Lib.hid hL
    clear hL
    gi_wp2
    gi_loopw [50] (fun i wx => ∃ j : Nat, j ≤ L ∧ i = .int .i64 j ∧ PutI W w1.heap.size F1 (Fo.putF op n H K (.cons h k .nil)) H K pl j wx) (fun i _ => L - (intOf i).toNat)
    case atStart => exact ⟨0, Nat.zero_le _, rfl, HST.out⟩
    case round =>
      obtain ⟨j, hj, rfl, hI⟩ := hrel
      have HI := Lib.hid hI
      have hold := hI.old (N := w.heap.size + 4) (fun c hc => (HBG.out c hc).1) (by omega)
      have hbel : Below w.heap.size w wr := HMW.out.b.below.trans (hold.mono (by omega))
      have HBW := Lib.hid hbel
      have hb2 := (hold.block (w.heap.size + 1 + 1) (by omega)).trans HMW.out.b.b2
      obtain ⟨d0, d1, d2, d3, _⟩ := row4 hb2
      have hb3 := (hold.block (w.heap.size + 1 + 1 + 1) (by omega)).trans HMW.out.b.b3
      obtain ⟨y0, y1, y2, y3, z0, z1, z2, z3⟩ := row4 hb3
      clear hold hbel hb2 hb3
      by_cases hjL : j < L
      · have hjp : j < pl.length := by rw [HL.out]; exact hjL
        obtain ⟨g, cap', cur, hv, hgb, hgc, _, _, hcells⟩ := own_some HOWN.out (by omega)
        obtain ⟨rfl, _, rfl⟩ : a = some ⟨g, 0, none⟩ ∧ L = L ∧ cp = cap' := by simpa using hv
        have hpj : pl[j]? = some pl[j] := List.getElem?_eq_getElem hjp
        have hcj := hcells j (Pl.ptr pl[j]) (by simp [hpj])
        have hglt := (Array.getElem?_eq_some_iff.1 hgc).1
        have hgs := HI.out.same g hglt (fun e => by have := (HBG.out g (by simp [e])).2; omega) (fun hc => by have := (HBG.out g (by simp [hc])).2; omega)
        have hcj2 : wr.cell? ⟨g, j, none⟩ = some (.pointer (some ⟨pl[j].1, pl[j].2, none⟩)) := by
          have := (cell_same hgs (0 + j)).trans hcj
          rw [Nat.zero_add] at this
          exact this
        obtain ⟨⟨h0, q0, l0, p0, hh0⟩, hrb, hloc, hgo⟩ := HI.out.here hpj
        have e0 := hh0.c0
        have e1 := hh0.c1
        have e2 := hh0.c2
        have e3 := hh0.c3
        have hplt := hh0.lt
        have HRB := Lib.hid hrb
        have HGO := Lib.hid hgo
        clear hgo hrb hh0 hgs hcj hpj hcells hloc hv
        generalize pl[j] = p at *
        gi_wp2_with fail
        refine ⟨trivial, ?_⟩
        refine (callsIn_wide.2 (HC2.out _ HBW.out)).mono ?_
        rintro e w6 ⟨q', cap6, F', rfl, hl6, hm6, hown6, hnd6, hF6, hb6⟩
        have f0 := (hb6.cell (p := ⟨p.1, p.2, none⟩) hplt).trans e0
        have f1 := (hb6.cell (p := ⟨p.1, p.2 + 1, none⟩) hplt).trans e1
        have f2 := (hb6.cell (p := ⟨p.1, p.2 + 2, none⟩) hplt).trans e2
        have f3 := (hb6.cell (p := ⟨p.1, p.2 + 3, none⟩) hplt).trans e3
        have hr6 := HRB.out.same (hb6.block _ hplt)
        have r0 := hr6.frozen p.2
        have r1 := hr6.frozen (p.2 + 1)
        have r2 := hr6.frozen (p.2 + 2)
        have r3 := hr6.frozen (p.2 + 3)
        have HN := Lib.hid (HGO.out w6 q' cap6 F' hb6 hown6 hnd6 hF6 hl6 hm6 (by have := (HBG.out w1.heap.size (by simp)).2; omega))
        clear hb6 hown6 hnd6 hF6 hr6
        gi_wp2
        go_roundw
        case rel => exact ⟨j + 1, by omega, by go_num, HN.out⟩
        case measure => simp [intOf]; omega
      · have hje : j = L := by omega
        have hI2 := HI.out
        rw [hje] at hI2
        have hfo := hI2.fin2 HL.out (W' := wr) (fun _ _ _ => rfl)
        rw [put_one] at hfo
        obtain ⟨q', cap', hh', _⟩ := fo_one hfo
        have g0 := hh'.c0
        have g1 := hh'.c1
        have g2 := hh'.c2
        have g3 := hh'.c3
        simp only [Nat.zero_add] at g0 g1 g2 g3
        have hl' := hh'.lc
        have hm' := hh'.cm
        have HI2 := Lib.hid hI2
        have HH := Lib.hid hh'
        have hKr : wr.heap[K']? = some (.deferred (some [])) := (hI2.same K' hKlt (fun e => by have := (HBG.out K' (by simp [e])).2; omega) (fun hc => by have := (HBG.out K' (by simp [hc])).2; omega)).trans HKD.out
        have hb3 := ((hI2.old (N := w.heap.size + 4) (fun c hc => (HBG.out c hc).1) (by omega)).block (w.heap.size + 1 + 1 + 1) (by omega)).trans HMW.out.b.b3
        have HKR := Lib.hid hKr
        have HB3 := Lib.hid hb3
        have hws : W.heap.size ≤ wr.heap.size := hI2.low.size
        clear hje hI2 hfo hh' hKr hb3
        have hw4 : w.heap.size + 4 ≤ w4.heap.size := HM4.out.b.room
        gi_wp2
        generalize hT : putT op n H K h k = T at *
        have hg := set4_grown wr (w.heap.size + 1 + 1 + 1) (.int .u8 T.1.op) (.string T.1.name) (.int .i64 T.1.n) (.slice q' T.2.len cap')
        have hrow := set4_row HB3.out (.int .u8 T.1.op) (.string T.1.name) (.int .i64 T.1.n) (.slice q' T.2.len cap')
        have hKd' := (hg.block K' (Array.getElem?_eq_some_iff.1 HKR.out).1 (by intro e; have := Option.some.inj e; omega)).trans HKR.out
        refine ⟨by simp, .inl ⟨_, _, rfl, run_takeDeferred hKd', ?_⟩⟩
        have hg2 := grownBy_putObj' (World.set4 wr (w.heap.size + 1 + 1 + 1) (.int .u8 T.1.op) (.string T.1.name) (.int .i64 T.1.n) (.slice q' T.2.len cap')) K' (.deferred none)
        have hrow2 := (hg2.block _ (Array.getElem?_eq_some_iff.1 hrow).1 (by intro e; have := Option.some.inj e; omega)).trans hrow
        refine ⟨_, results_cell_row rfl _ _ _ _ _ _ (.struct _) rfl hrow2 Try.underlying25 rfl (by kernel_rfl), ?_⟩
        obtain ⟨F9, hp9, hn9, hF9⟩ := HI2.out.fin3 (W' := (World.set4 wr (w.heap.size + 1 + 1 + 1) (.int .u8 T.1.op) (.string T.1.name) (.int .i64 T.1.n) (.slice q' T.2.len cap')).putObj K' (.deferred none)) HL.out (fun b hb hlt => by
          have hne1 : b ≠ w.heap.size + 1 + 1 + 1 := fun e => by
            rcases hb with h1 | h1 | h1
            · have := (HBG.out b (by simp [h1])).1; omega
            · have := (HBG.out b (by simp [h1])).1; omega
            · omega
          have hne2 : b ≠ K' := fun e => by
            rcases hb with h1 | h1 | h1
            · have := (HBG.out b (by simp [h1])).2; omega
            · have := (HBG.out b (by simp [h1])).2; omega
            · omega
          exact (hg2.block b (Nat.lt_of_lt_of_le hlt hg.size) (fun e => hne2 (Option.some.inj e))).trans (hg.block b hlt (fun e => hne1 (Option.some.inj e))))
        rw [put_one, hT] at hp9
        obtain ⟨q2, cap2, F8, F7, hh2, hs2, rfl, _⟩ := (PT.any (Pend' := PendN) hp9).un
        have hB0 : ((World.set4 wr (w.heap.size + 1 + 1 + 1) (.int .u8 T.1.op) (.string T.1.name) (.int .i64 T.1.n) (.slice q' T.2.len cap')).putObj K' (.deferred none)).heap[w1.heap.size]? = wr.heap[w1.heap.size]? := by
          have hb := HBG.out w1.heap.size (by simp)
          have hl := HH.out.lt
          exact (hg2.block _ (Nat.lt_of_lt_of_le hl hg.size) (fun e => by have := Option.some.inj e; omega)).trans (hg.block _ hl (fun e => by have := Option.some.inj e; omega))
        have e3 := (cell_same hB0 (0 + 3)).symm.trans hh2.c3
        rw [HH.out.c3] at e3
        obtain ⟨rfl, rfl⟩ : q' = q2 ∧ cap' = cap2 := by simpa using e3
        have hroom := HMW.out.b.room
        refine ⟨q', cap', F8, rfl, hl', hm', hs2, (List.nodup_append.1 hn9).1, fun c hc => ?_, ?_⟩
        · have h9 := hF9 c (by simp [hc])
          refine ⟨?_, Nat.lt_of_lt_of_le h9.2 (Nat.le_trans hg.size hg2.size)⟩
          rcases h9.1 with h8 | h8
          · have := (HBG.out c (by simp [h8])).1; omega
          · omega
        have hbw := HMW.out.b.below.trans ((HI2.out.old (N := w.heap.size + 4) (fun c hc => (HBG.out c hc).1) (by omega)).mono (by omega))
        exact (hbw.grown hg hbw.size (fun r e => by have := Option.some.inj e; omega)).grown hg2 (Nat.le_trans hbw.size hg.size) (fun r e => by have := Option.some.inj e; omega)
end Go.Proofs.Ytmjijmkdeblefaa
