/- Flat of few fields; Field. -/
import Derived.Test.YtmjijmkdeblefaaKdP
namespace Go.Proofs.Ytmjijmkdeblefaa
open Go.RowKit LM
set_option linter.unusedVariables false

theorem RowCh.mem {w : World} {h : Hd} {k : Fo} {q : Option Addr} {cap : Nat} {fs : List Fld} {th : Hd} {tk : Fo} {tq : Option Addr} {tc : Nat} (hc : RowCh w h k q cap fs th tk tq tc) : (∀ f ∈ fs, SlF w f.q f.cap f.k) ∧ SlF w tq tc tk := by
  induction hc with
  | stop hop hs => exact ⟨by simp, hs⟩
  | step hop hcap a0 a1 s0 s1 _ ih =>
    refine ⟨fun f hf => ?_, ih.2⟩
    rcases List.mem_cons.1 hf with rfl | h
    · exact s0
    · exact ih.1 f h

theorem shapes_cons (h : Hd) (k r : Fo) (s : Nat) (ss : List Nat) : (Fo.cons h k r).shapes (s :: ss) = ((Fo.cons h k .nil).shapes [s] && r.shapes ss) := by simp [Fo.shapes]
theorem shapes_rowOK : ∀ (k : Fo) (h : Hd), (Fo.cons h k .nil).shapes [2] = true → rowOK h k := by
  have key : ∀ (n : Nat) (k : Fo) (h : Hd), k.size ≤ n → (Fo.cons h k .nil).shapes [2] = true → rowOK h k := by
    intro n
    induction n with
    | zero =>
      intro k h hn hs
      cases k with
      | nil =>
        show h.op ≠ 11
        intro e
        simp [Fo.shapes, kidsL, e] at hs
      | cons h0 k0 r => simp [Fo.size] at hn
    | succ n ih =>
      intro k h hn hs
      cases k with
      | nil =>
        show h.op ≠ 11
        intro e
        simp [Fo.shapes, kidsL, e] at hs
      | cons h0 k0 r =>
        cases r with
        | nil =>
          show h.op ≠ 11
          intro e
          simp [Fo.shapes, kidsL, e] at hs
        | cons h1 k1 r =>
          show h.op = 11 → rowOK h1 k1
          intro e
          refine ih k1 h1 (by simp [Fo.size] at hn; omega) ?_
          have h2 : (Fo.cons h0 k0 (.cons h1 k1 r)).shapes [1, 2] = true := by
            simp only [Fo.shapes, kidsL, e] at hs
            simp at hs
            exact hs.2
          rw [shapes_cons] at h2
          simp at h2
          have h3 := h2.2
          rw [shapes_cons] at h3
          simpa using (Bool.and_eq_true_iff.1 h3).1
  exact fun k h => key k.size k h (Nat.le_refl _)
theorem right_rowOK {h : Hd} {k : Fo} (hr : rightB h k 2 = true) : rowOK h k := by
  unfold rightB at hr
  exact shapes_rowOK k h (Bool.and_eq_true_iff.1 hr).1

theorem bcell {W w1 : World} (hb : Below W.heap.size W w1) : (∀ b o, b < W.heap.size → w1.cell? ⟨b, o, none⟩ = W.cell? ⟨b, o, none⟩) ∧ (∀ b o, b < W.heap.size → w1.frozen? ⟨b, o, none⟩ = W.frozen? ⟨b, o, none⟩) :=
  ⟨fun b o h => hb.cell (p := ⟨b, o, none⟩) h, fun b o h => hb.frozen (p := ⟨b, o, none⟩) h⟩

theorem PT.un {w : World} {h : Hd} {k r : Fo} {b o : Nat} {F : List Nat} (hp : PT PendN w (.cons h k r) b o [] [] F) : ∃ q cap F1 F2, HdAt w b o h q k.len cap ∧ OwnF w q k F1 ∧ F = F1 ++ F2 ∧ PT PendN w r b (o + 4) [] [] F2 := by
  obtain ⟨s1, s2, t1, t2, F1, F2, f1, f2, f3, hr, hc⟩ := hp
  obtain ⟨rfl, rfl⟩ := List.append_eq_nil_iff.1 f1.symm
  obtain ⟨rfl, rfl⟩ := List.append_eq_nil_iff.1 f2.symm
  rcases hc with ⟨x1, _⟩ | ⟨q, cap, hh, hk⟩
  · cases x1
  · refine ⟨q, cap, F1, F2, hh, ?_, f3, hr⟩
    rcases hk with ⟨x1, _, _, x4⟩ | ⟨b', F', x1, x2, x3, hk⟩
    · exact .inl ⟨x1, x4⟩
    · exact .inr ⟨b', F', x1, x2, x3, hk⟩

/-- A row of the call's own: each field's tree, and the tail's, with blocks of its own. -/
theorem RowCh.own {w : World} : ∀ (k : Fo) (h : Hd) (q : Option Addr) (cap : Nat) (F : List Nat), rowOK h k → OwnF w q k F → F.Nodup → k.len ≤ cap → cap ≤ maxLen →
    ∃ (zs : List (Fld × List Nat)) (th : Hd) (tk : Fo) (tq : Option Addr) (tc : Nat) (Ft : List Nat), RowCh w h k q cap (zs.map Prod.fst) th tk tq tc ∧ rowF h k = ((zs.map Prod.fst).map fun f => (f.name, f.h, f.k), (th, tk)) ∧
      (∀ z ∈ zs, OwnF w z.1.q z.1.k z.2 ∧ z.1.k.len ≤ z.1.cap ∧ z.1.cap ≤ maxLen) ∧ OwnF w tq tk Ft ∧ tk.len ≤ tc ∧ tc ≤ maxLen ∧ (zs.flatMap Prod.snd ++ Ft).Nodup ∧ (∀ c ∈ zs.flatMap Prod.snd ++ Ft, c ∈ F)
  | .nil, h, q, cap, F, hr, ho, hn, h1, h2 => ⟨[], h, .nil, q, cap, F, .stop hr (ho.slF h1 h2), rfl, by simp, ho, h1, h2, by simpa using hn, by simp⟩
  | .cons h0 k0 .nil, h, q, cap, F, hr, ho, hn, h1, h2 => ⟨[], h, _, q, cap, F, .stop hr (ho.slF h1 h2), rfl, by simp, ho, h1, h2, by simpa using hn, by simp⟩
  | .cons h0 k0 (.cons h1 k1 r), h, q, cap, F, hr, ho, hn, hl1, hl2 => by
    by_cases hop : h.op = 11
    · rcases ho with ⟨x, _⟩ | ⟨b, F', rfl, rfl, hrow, hp⟩
      · simp [Fo.len] at x
      · obtain ⟨q0, cap0, F0, F1', a0, o0, rfl, hp1⟩ := hp.un
        obtain ⟨q1, cap1, F1, F2, a1, o1, rfl, hp2⟩ := hp1.un
        have hn' := (List.nodup_cons.1 hn).2
        rw [List.nodup_append] at hn'
        obtain ⟨n0, n12, nd⟩ := hn'
        rw [List.nodup_append] at n12
        obtain ⟨zs, th, tk, tq, tc, Ft, hc, he, hz, hft, ht1, ht2, hnd, hsub⟩ := RowCh.own k1 h1 q1 cap1 F1 (hr hop) o1 n12.1 a1.lc a1.cm
        refine ⟨(⟨h.name, h0, q0, k0, cap0⟩, F0) :: zs, th, tk, tq, tc, Ft, .step hop ⟨hl1, hl2⟩ a0 a1 (o0.slF a0.lc a0.cm) (o1.slF a1.lc a1.cm) hc, ?_, ?_, hft, ht1, ht2, ?_, ?_⟩
        · rw [rowF, if_pos hop, he]; rfl
        · intro z hz'
          rcases List.mem_cons.1 hz' with rfl | h3
          · exact ⟨o0, a0.lc, a0.cm⟩
          · exact hz z h3
        · rw [List.flatMap_cons, List.append_assoc, List.nodup_append]
          exact ⟨n0, hnd, fun x hx y hy => nd x hx y (by have := hsub y hy; simp [this])⟩
        · intro c hc'
          rw [List.flatMap_cons, List.append_assoc, List.mem_append] at hc'
          rcases hc' with h3 | h3
          · simp [h3]
          · have := hsub c h3; simp [this]
    · exact ⟨[], h, _, q, cap, F, .stop hop (ho.slF hl1 hl2), by rw [rowF, if_neg hop]; rfl, by simp, ho, hl1, hl2, by simpa using hn, by simp⟩

theorem two_boxes {w w1 : World} {v0 v1 v2 v3 u0 u1 u2 u3 : Value} (hb : Below ((w.alloc (.cells #[v0, v1, v2, v3] 25)).alloc (.cells #[u0, u1, u2, u3] 25)).heap.size ((w.alloc (.cells #[v0, v1, v2, v3] 25)).alloc (.cells #[u0, u1, u2, u3] 25)) w1) :
    Below w.heap.size w w1 ∧ w1.heap[w.heap.size]? = some (.cells #[v0, v1, v2, v3] 25 (0, 0)) ∧ w1.heap[w.heap.size + 1]? = some (.cells #[u0, u1, u2, u3] 25 (0, 0)) := by
  have e1 := World.alloc_heap_new w (.cells #[v0, v1, v2, v3] 25)
  have e2 := World.alloc_heap_new (w.alloc (.cells #[v0, v1, v2, v3] 25)) (.cells #[u0, u1, u2, u3] 25)
  rw [World.size_alloc] at e2
  exact ⟨(((Below.refl _ _).alloc (Nat.le_refl _) _).alloc (by simp) _).trans (hb.mono (by simp; omega)), (hb.block _ (by simp; omega)).trans (((below_box _ _).block _ (by simp)).trans e1), (hb.block _ (by simp)).trans e2⟩

/-- What Flat answers of a row with few fields. -/
def FlatR (w : World) (h : Hd) (k : Fo) (e : Ending) (w' : World) : Prop :=
  ∃ v fs th tk tq tc, e = .returned (.tuple #[v, .agg #[.int .u8 th.op, .string th.name, .int .i64 th.n, .slice tq tk.len tc]]) ∧ w'.ownsRow w.heap.size 40 5 v fs.length (fldCells (insF fs)) ∧
    rowF h k = (fs.map fun f => (f.name, f.h, f.k), (th, tk)) ∧ (∀ f ∈ fs, SlF w' f.q f.cap f.k) ∧ SlF w' tq tc tk ∧ Below w.heap.size w w'

set_option maxRecDepth 100000 in
theorem Flat_few (h : Hd) (k : Fo) (q : Option Addr) (cap : Nat) (w : World) (hh : h.ok) (hf : SlF w q cap k) (hok : k.ok) (hsz : 1 + k.size ≤ 1099511627776) (hr : rightB h k 2 = true) (hl : (rowF h k).1.length < 20) :
    Calls Try.prog 30 #[.agg #[.int .u8 h.op, .string h.name, .int .i64 h.n, .slice q k.len cap]] w (FlatR w h k) := by
  have HR := Lib.hid fun w' hb => Row_any h k q cap w' hh (hf.below (w := w) hb) hok hsz
  have HC := Lib.hid fun w' hb => copied_any h k q cap w' hh (hf.below (w := w) hb) hok hsz
  rw [hr] at HR
  have HO := Lib.hid (right_rowOK hr)
  have HL := Lib.hid hl
  clear hf hr hl
  go_enter Try.func30, Try.ntmps30
  go_wp2_with (go_at_call 71; refine (HR.out _ (((Below.refl _ _).alloc (Nat.le_refl _) _).alloc (by simp) _)).mono ?_; rintro e w1 ⟨rfl, hb1⟩; have hw1 := two_boxes hb1; clear hb1; obtain ⟨x0, x1, x2, x3, _⟩ := row4 hw1.2.1; have HW1 := Lib.hid hw1; clear hw1)
  refine (HC.out _ HW1.out.1).mono ?_
  rintro e w2 ⟨q', cap', F, rfl, hcp1, hcp2, hown, hnd, hF, hb2⟩
  obtain ⟨zs, th, tk, tq, tc, Ft, hch, heq, hzs, hft, htl, htm, _, hsub⟩ := RowCh.own k h q' cap' F HO.out hown hnd hcp1 hcp2
  have HZS := Lib.hid hzs
  have HFT := Lib.hid hft
  have HSUB := Lib.hid hsub
  have HF := Lib.hid hF
  clear hzs hft hsub
  obtain ⟨fs, hfs⟩ : ∃ fs, fs = zs.map Prod.fst := ⟨_, rfl⟩
  rw [← hfs] at hch heq
  have HFS := Lib.hid hfs
  clear hfs
  have hfl : fs.length < 20 := by have := HL.out; rw [heq] at this; simpa using this
  have HCH := Lib.hid hch
  have HEQ := Lib.hid heq
  have HB2 := Lib.hid hb2
  clear hown hnd hF hch heq hb2
  go_wp2_with fail
  refine (flat_few h k q' cap' w2 fs th tk tq tc HCH.out hfl).mono ?_
  rintro e w3 ⟨v, rfl, hown3, hb3⟩
  have hres := (((HB2.out.trans (hb3.mono HB2.out.size)).block _ (by have := (Array.getElem?_eq_some_iff.1 HW1.out.2.2).1; omega)).trans HW1.out.2.2)
  obtain ⟨y0, y1, y2, y3, z0, z1, z2, z3⟩ := row4 hres
  have HRES := Lib.hid hres
  have HO3 := Lib.hid hown3
  have HB3 := Lib.hid hb3
  clear hres hown3 hb3
  go_wp2
  have hg := set4_grown w3 (w.heap.size + 1) (.int .u8 th.op) (.string th.name) (.int .i64 th.n) (.slice tq tk.len tc)
  have hb03 : Below w.heap.size w w3 := HW1.out.1.trans ((HB2.out.mono HW1.out.1.size).trans (HB3.out.mono (Nat.le_trans HW1.out.1.size HB2.out.size)))
  have hsz1 := (Array.getElem?_eq_some_iff.1 HW1.out.2.2).1
  have hsz2 := HB2.out.size
  have hblk : ∀ c ∈ F, (World.set4 w3 (w.heap.size + 1) (.int .u8 th.op) (.string th.name) (.int .i64 th.n) (.slice tq tk.len tc)).heap[c]? = w2.heap[c]? := fun c hc => by
    have h1 := HF.out c hc
    exact (hg.block c (by have := HB3.out.size; omega) (by intro e; have := Option.some.inj e; omega)).trans (HB3.out.block c h1.2)
  have hmf : ∀ f ∈ fs, SlF (World.set4 w3 (w.heap.size + 1) (.int .u8 th.op) (.string th.name) (.int .i64 th.n) (.slice tq tk.len tc)) f.q f.cap f.k := by
    intro f hf
    rw [HFS.out] at hf
    obtain ⟨z, hz, rfl⟩ := List.mem_map.1 hf
    obtain ⟨z1, z2, z3⟩ := HZS.out z hz
    exact (z1.keep (fun c hc => hblk c (HSUB.out c (List.mem_append_left _ (List.mem_flatMap.2 ⟨z, hz, hc⟩))))).slF z2 z3
  have hmt := (HFT.out.keep (fun c hc => hblk c (HSUB.out c (List.mem_append_right _ hc)))).slF htl htm
  refine bodyPost_ret (v := .tuple #[v, .agg #[.int .u8 th.op, .string th.name, .int .i64 th.n, .slice tq tk.len tc]]) (by simp [results, Try.results30, go_sem, y0, y1, y2, y3]) rfl ⟨v, fs, th, tk, tq, tc, rfl, ?_, HEQ.out, hmf, hmt, ?_⟩
  · refine own_base (HO3.out.kept hg ?_) (by omega)
    rcases hv : v.ownBlock with _ | r
    · exact .inl rfl
    · right; intro e; have := (HO3.out.lt r hv).1; have := Option.some.inj e; omega
  · exact hb03.grown hg hb03.size (fun r e => by have := Option.some.inj e; omega)

end Go.Proofs.Ytmjijmkdeblefaa
