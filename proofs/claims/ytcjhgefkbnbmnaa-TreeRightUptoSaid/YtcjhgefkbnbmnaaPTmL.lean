/- spoil, of TreeCopies' law: it writes into the term's own memory alone. -/
import Derived.Test.YtcjhgefkbnbmnaaPTmK
namespace Go.Proofs.Ytcjhgefkbnbmnaa
open Go.RowKit LM
set_option linter.unusedVariables false

/-- A node is stored at its place. -/
def World.put10 (W : World) (b o : Nat) (v0 v1 v2 v3 v4 v5 v6 v7 v8 v9 : Value) : World :=
  (((((((((W.setCell ⟨b, o, none⟩ v0).setCell ⟨b, o + 1, none⟩ v1).setCell ⟨b, o + 2, none⟩ v2).setCell ⟨b, o + 3, none⟩ v3).setCell ⟨b, o + 4, none⟩ v4).setCell ⟨b, o + 5, none⟩ v5).setCell ⟨b, o + 6, none⟩ v6).setCell ⟨b, o + 7, none⟩ v7).setCell ⟨b, o + 8, none⟩ v8).setCell ⟨b, o + 9, none⟩ v9
theorem put10_grown (W : World) (b o : Nat) (v0 v1 v2 v3 v4 v5 v6 v7 v8 v9 : Value) : W.grownBy (World.put10 W b o v0 v1 v2 v3 v4 v5 v6 v7 v8 v9) (some b) :=
  grown_trans (grown_trans (grown_trans (grown_trans (grown_trans (grown_trans (grown_trans (grown_trans (grown_trans (setCell_grown_at W b o v0) (setCell_grown_at _ b _ v1)) (setCell_grown_at _ b _ v2)) (setCell_grown_at _ b _ v3)) (setCell_grown_at _ b _ v4)) (setCell_grown_at _ b _ v5)) (setCell_grown_at _ b _ v6)) (setCell_grown_at _ b _ v7)) (setCell_grown_at _ b _ v8)) (setCell_grown_at _ b _ v9)
theorem put10_row {W : World} {b : Nat} (h : RowT W b) (o : Nat) (v0 v1 v2 v3 v4 v5 v6 v7 v8 v9 : Value) : RowT (World.put10 W b o v0 v1 v2 v3 v4 v5 v6 v7 v8 v9) b := (((((((((h.set _ _).set _ _).set _ _).set _ _).set _ _).set _ _).set _ _).set _ _).set _ _).set _ _
theorem put10_cell (W : World) (b o i : Nat) (v0 v1 v2 v3 v4 v5 v6 v7 v8 v9 : Value) (h : o + 10 ≤ i) : (World.put10 W b o v0 v1 v2 v3 v4 v5 v6 v7 v8 v9).cell? ⟨b, i, none⟩ = W.cell? ⟨b, i, none⟩ := by
  have e : ∀ j, j < o + 10 → (⟨b, j, none⟩ : Addr) ≠ ⟨b, i, none⟩ := fun j hj e => by have := congrArg Addr.off e; simp only at this; omega
  unfold World.put10
  rw [World.cell?_setCell_other (h := e _ (by omega)), World.cell?_setCell_other (h := e _ (by omega)), World.cell?_setCell_other (h := e _ (by omega)), World.cell?_setCell_other (h := e _ (by omega)), World.cell?_setCell_other (h := e _ (by omega)),
    World.cell?_setCell_other (h := e _ (by omega)), World.cell?_setCell_other (h := e _ (by omega)), World.cell?_setCell_other (h := e _ (by omega)), World.cell?_setCell_other (h := e _ (by omega)), World.cell?_setCell_other (h := e _ (by omega))]

theorem TPT.un {w : World} {h : TH} {k r : TF} {b o : Nat} {F : List Nat} (hp : TPT TPendN w (.cons h k r) b o [] [] F) : ∃ qa ca q cap Fa Fk F2, THAt w b o h qa ca q k.len cap ∧ (OwnF w qa h.ak Fa ∧ h.ak.len ≤ ca ∧ ca ≤ maxLen) ∧ TOwn w q k Fk ∧ F = (Fa ++ Fk) ++ F2 ∧ TPT TPendN w r b (o + 10) [] [] F2 := by
  obtain ⟨st1, st2, ts1, ts2, F1, F2, e1, e2, e3, hr, hc⟩ := hp
  obtain ⟨rfl, rfl⟩ := List.append_eq_nil_iff.1 e1.symm
  obtain ⟨rfl, rfl⟩ := List.append_eq_nil_iff.1 e2.symm
  rcases hc with ⟨x1, _⟩ | ⟨qa, ca, q, cap, Fa, Fk, rfl, hh, ha, hk⟩
  · cases x1
  · refine ⟨qa, ca, q, cap, Fa, Fk, F2, hh, ha, ?_, e3, hr⟩
    rcases hk with ⟨x1, _, _, x4⟩ | ⟨b', F', x1, x2, x3, hk⟩
    · exact .inl ⟨x1, x4⟩
    · exact .inr ⟨b', F', x1, x2, x3, hk⟩

/-- Block b is a row of types with n cells at least. -/
def RowN (w : World) (b n : Nat) : Prop := ∃ cs, w.heap[b]? = some (.cells cs 25 (0, 0)) ∧ n ≤ cs.size
theorem RowN.same {w w' : World} {b n : Nat} (h : RowN w b n) (e : w'.heap[b]? = w.heap[b]?) : RowN w' b n := by obtain ⟨cs, h, hn⟩ := h; exact ⟨cs, e.trans h, hn⟩
theorem RowN.lt {w : World} {b n : Nat} (h : RowN w b n) : b < w.heap.size := by obtain ⟨cs, h, _⟩ := h; exact (Array.getElem?_eq_some_iff.1 h).1
theorem RowN.frozen {w : World} {b n : Nat} (h : RowN w b n) (o : Nat) : w.frozen? ⟨b, o, none⟩ = false := by obtain ⟨cs, h, _⟩ := h; simp [World.frozen?, h]
theorem RowN.cell {w : World} {b n : Nat} (h : RowN w b n) {o : Nat} (ho : o < n) : ∃ v, w.cell? ⟨b, o, none⟩ = some v := by
  obtain ⟨cs, h, hn⟩ := h
  exact ⟨cs[o]'(by omega), by simp [World.cell?, h, show o < cs.size by omega]⟩
theorem RowN.set {w : World} {b n : Nat} (h : RowN w b n) (i : Nat) (v : Value) : RowN (w.setCell ⟨b, i, none⟩ v) b n := by
  obtain ⟨cs, h, hn⟩ := h
  exact ⟨_, row_set h i v, by simpa using hn⟩
theorem OwnF.rowN {w : World} {q : Option Addr} {f : Fo} {F : List Nat} (h : OwnF w q f F) (h0 : 0 < f.len) : ∃ b, q = some ⟨b, 0, none⟩ ∧ b ∈ F ∧ RowN w b (f.len * 4) := by
  rcases h with ⟨h1, _⟩ | ⟨b, F', rfl, rfl, ⟨cs, hr⟩, hp⟩
  · omega
  · refine ⟨b, rfl, by simp, cs, hr, ?_⟩
    obtain ⟨q1, c1, hd, _⟩ := hp.fo.get (f.len - 1) (by omega)
    have h3 := hd.c3
    simp only [World.cell?, hr] at h3
    have := (Array.getElem?_eq_some_iff.1 h3).1
    omega

/-- What spoil keeps while the annotation's Kids are spoiled. -/
structure SaI (w : World) (c : Array Value) (Fa : List Nat) (ba La j : Nat) (W : World) : Prop where
  le : j ≤ La
  box : W.heap[w.heap.size]? = some (.cells c 43 (0, 0))
  out : SpOut Fa w W
  row : 0 < La → RowN W ba (La * 4)
theorem SaI.next {w : World} {c : Array Value} {Fa : List Nat} {ba La j : Nat} {W : World} (hI : SaI w c Fa ba La j W) (hj : j < La) (hb : ba ∈ Fa) (hF : ∀ x ∈ Fa, x < w.heap.size) (v0 v1 v2 v3 : Value) : SaI w c Fa ba La (j + 1) (World.put4 W ba (j * 4) v0 v1 v2 v3) := by
  have hg := put4_grown W ba (j * 4) v0 v1 v2 v3
  have hl := (Array.getElem?_eq_some_iff.1 hI.box).1
  refine ⟨hj, (hg.block _ hl (fun e => by have := Option.some.inj e; have := hF _ hb; omega)).trans hI.box, ?_, fun h0 => ((((hI.row h0).set _ _).set _ _).set _ _).set _ _⟩
  have hg2 : SpOut [ba] W (World.put4 W ba (j * 4) v0 v1 v2 v3) := ⟨hg.os, hg.tape, hg.output, hg.size, fun b hb hn => hg.block b hb (fun e => hn (by simp [Option.some.inj e]))⟩
  exact hI.out.trans hg2 (fun x hx _ => by simp at hx; rw [hx]; exact hb)

/-- What spoil keeps: the Kids from number j on are as they were. -/
structure StI (w : World) (c : Array Value) (k : TF) (L b' : Nat) (F0 F : List Nat) (j : Nat) (W : World) : Prop where
  le : j ≤ L
  box : W.heap[w.heap.size]? = some (.cells c 43 (0, 0))
  out : SpOut F0 w W
  big : ∀ c ∈ F, c < w.heap.size
  rest : j < L → ∃ r G, r.len + j = L ∧ r.bulk ≤ k.bulk ∧ r.size ≤ k.size ∧ TPT TPendN W r b' (j * 10) [] [] G ∧ (b' :: G).Nodup ∧ (∀ c ∈ b' :: G, c ∈ F) ∧ RowT W b'

theorem StI.next {w : World} {c : Array Value} {k : TF} {L b' : Nat} {F0 F : List Nat} {j : Nat} {W W2 : World} (hI : StI w c k L b' F0 F j W) (hFF : ∀ x ∈ F, x ∈ F0)
    {h0 : TH} {k0 r : TF} {G1 G2 : List Nat} (hL : (TF.cons h0 k0 r).len + j = L) (hbk : (TF.cons h0 k0 r).bulk ≤ k.bulk) (hsz : (TF.cons h0 k0 r).size ≤ k.size) (hp : TPT TPendN W r b' (j * 10 + 10) [] [] G2) (hnd : (b' :: (G1 ++ G2)).Nodup) (hin : ∀ c ∈ b' :: (G1 ++ G2), c ∈ F) (hr : RowT W b')
    (h2 : SpOut G1 W W2) (v0 v1 v2 v3 v4 v5 v6 v7 v8 v9 : Value) : StI w c k L b' F0 F (j + 1) (World.put10 W2 b' (j * 10) v0 v1 v2 v3 v4 v5 v6 v7 v8 v9) := by
  have hb := (Array.getElem?_eq_some_iff.1 hI.box).1
  have hbF : w.heap.size ∉ F := fun hc => by have := hI.big _ hc; omega
  have hnb : ∀ c ∈ G1, c ≠ b' := fun c hc e => (List.nodup_cons.1 hnd).1 (by simp [← e, hc])
  have hr2 : W2.heap[b']? = W.heap[b']? := h2.keep b' hr.lt (fun hc => hnb _ hc rfl)
  have hg := put10_grown W2 b' (j * 10) v0 v1 v2 v3 v4 v5 v6 v7 v8 v9
  have hrow := put10_row (hr.same hr2) (j * 10) v0 v1 v2 v3 v4 v5 v6 v7 v8 v9
  have hbb : b' ∈ F := hin b' (by simp)
  refine ⟨?_, ?_, ?_, hI.big, ?_⟩
  · simp [TF.len] at hL; omega
  · have e1 : W2.heap[w.heap.size]? = W.heap[w.heap.size]? := h2.keep _ hb (fun hc => hbF (hin _ (by simp [hc])))
    have e2 := hg.block w.heap.size (Nat.lt_of_lt_of_le hb h2.size) (fun e => hbF (Option.some.inj e ▸ hbb))
    exact (e2.trans e1).trans hI.box
  · have hg2 : SpOut [b'] W2 (World.put10 W2 b' (j * 10) v0 v1 v2 v3 v4 v5 v6 v7 v8 v9) := ⟨hg.os, hg.tape, hg.output, hg.size, fun b hb hn => hg.block b hb (fun e => hn (by simp [Option.some.inj e]))⟩
    exact (hI.out.trans h2 (fun c hc _ => hFF c (hin c (by simp [hc])))).trans hg2 (fun c hc _ => by simp at hc; rw [hc]; exact hFF _ hbb)
  · intro hj
    refine ⟨r, G2, by simp [TF.len] at hL; omega, by simp [TF.bulk] at hbk; omega, by simp [TF.size] at hsz; omega, ?_, ?_, fun c hc => hin c (by simp at hc ⊢; rcases hc with h | h <;> simp [h]), hrow⟩
    · rw [show (j + 1) * 10 = j * 10 + 10 from by omega]
      have hnd' := List.nodup_cons.1 hnd
      have hdis := (List.nodup_append.1 hnd'.2).2.2
      have hlt : ∀ c ∈ G2, c < W.heap.size := fun c hc => by have := hI.big c (hin c (by simp [hc])); have := hI.out.size; omega
      refine hp.keep (fun _ _ _ _ _ _ _ h _ _ => h) (fun i hi => (put10_cell W2 b' (j * 10) i v0 v1 v2 v3 v4 v5 v6 v7 v8 v9 hi).trans (cell_same hr2 i)) (fun c hc => ?_)
      have e1 := h2.keep c (hlt c hc) (fun hc1 => hdis c hc1 c hc rfl)
      exact (hg.block c (Nat.lt_of_lt_of_le (hlt c hc) h2.size) (fun e => hnd'.1 (by rw [← Option.some.inj e]; simp [hc]))).trans e1
    · have hnd' := List.nodup_cons.1 hnd
      exact List.nodup_cons.2 ⟨fun hc => hnd'.1 (by simp [hc]), (List.nodup_append.1 hnd'.2).2.1⟩

set_option maxRecDepth 100000 in
set_option maxHeartbeats 4000000 in
theorem tspoil_any : ∀ (n : Nat) (h : TH) (k : TF) (qa : Option Addr) (ca : Nat) (q : Option Addr) (cap : Nat) (w : World) (Fa F : List Nat), k.size < n → OwnF w qa h.ak Fa → TOwn w q k F → (Fa ++ F).Nodup → (∀ c ∈ Fa ++ F, c < w.heap.size) →
    h.ak.len ≤ ca → ca ≤ maxLen → h.ak.size ≤ 1099511627776 → k.len ≤ cap → cap ≤ maxLen → k.bulk ≤ 1099511627776 →
    Calls Try.prog 49 #[.agg (tmV h qa ca q k.len cap)] w fun e w' => e = .returned (.tuple #[]) ∧ SpOut (Fa ++ F) w w' := by
  intro n
  induction n with
  | zero => intro h k qa ca q cap w Fa F hn; omega
  | succ n ih =>
    intro h k qa ca q cap w Fa F hn hoa ho hnd hF hla hma hsa hl hc hm
    have hlm : k.len ≤ 1099511627776 := by have := TF.len_le_size k; have := TF.size_le_bulk k; omega
    have hlm2 : h.ak.len ≤ 1099511627776 := Nat.le_trans (Fo.len_le_size h.ak) hsa
    obtain ⟨n1, n2, n3⟩ := List.nodup_append.1 hnd
    obtain ⟨L, hL⟩ : ∃ L, L = k.len := ⟨_, rfl⟩
    obtain ⟨La, hLa⟩ : ∃ La, La = h.ak.len := ⟨_, rfl⟩
    unfold tmV
    rw [← hL] at hl hlm ⊢
    rw [← hLa] at hla hlm2 ⊢
    obtain ⟨b', hb'⟩ : ∃ b', 0 < L → q = some ⟨b', 0, none⟩ := by
      rcases ho with ⟨h1, _⟩ | ⟨b', F', h1, _⟩
      · exact ⟨0, fun h => by omega⟩
      · exact ⟨b', fun _ => h1⟩
    obtain ⟨ba, hba⟩ : ∃ ba, 0 < La → qa = some ⟨ba, 0, none⟩ ∧ ba ∈ Fa ∧ RowN w ba (La * 4) := by
      by_cases h0 : 0 < h.ak.len
      · obtain ⟨b2, h1, h2, h3⟩ := hoa.rowN h0
        exact ⟨b2, fun _ => ⟨h1, h2, by rw [hLa]; exact h3⟩⟩
      · exact ⟨0, fun h => by omega⟩
    obtain ⟨C, hC⟩ : ∃ C : Array Value, C = #[.int .u8 h.op, .string h.name, .string h.arg, .int .i64 h.n, .bool h.has, .int .u8 h.ah.op, .string h.ah.name, .int .i64 h.ah.n, .slice qa La ca, .slice q L cap] := ⟨_, rfl⟩
    have hst : SaI w C Fa ba La 0 (w.alloc (.cells C 43)) := ⟨Nat.zero_le _, World.alloc_heap_new w _, SpOut.of (below_box w _), fun h0 => (hba h0).2.2.same ((below_box w _).block _ (hba h0).2.2.lt)⟩
    have hst2 : ∀ W j, SaI w C Fa ba La j W → StI w C k L b' (Fa ++ F) F 0 W := fun W j hI => by
      have hd : ∀ c ∈ F, c ∉ Fa := fun c hc hc2 => n3 c hc2 c hc rfl
      have e : ∀ c ∈ F, W.heap[c]? = w.heap[c]? := fun c hc => hI.out.keep c (hF c (by simp [hc])) (hd c hc)
      refine ⟨Nat.zero_le _, hI.box, ⟨hI.out.os, hI.out.tape, hI.out.output, hI.out.size, fun b hb hn => hI.out.keep b hb (fun hc => hn (by simp [hc]))⟩, fun c hc => hF c (by simp [hc]), fun h0 => ?_⟩
      rcases ho with ⟨h1, _⟩ | ⟨b2, F', h1, rfl, h3, h4⟩
      · omega
      · have hbe : b2 = b' := by have := hb' h0; rw [h1] at this; exact congrArg Addr.block (Option.some.inj this)
        subst hbe
        exact ⟨k, F', by omega, Nat.le_refl _, Nat.le_refl _, h4.keep (fun _ _ _ _ _ _ _ h _ _ => h) (fun i _ => cell_same (e b2 (by simp)) i) (fun c hc => e c (by simp [hc])), n2, fun c hc => hc, h3.same (e b2 (by simp))⟩
    have HST := Lib.hid hst
    have HST2 := Lib.hid hst2
    have HQ := Lib.hid hb'
    have HQA := Lib.hid hba
    have HIH := Lib.hid ih
    have HFL := Lib.hid fun c (hc : c ∈ Fa) => hF c (by simp [hc])
    have HCD := Lib.hid hC
    unfold maxLen at hc hma
    clear hst hst2 ho hoa hnd hF ih hL hLa n1 n2 n3 hba hb'
    subst hC
    go_enter Try.func49, Try.ntmps49
    go_wp2
    go_loopw [2] (fun i wr => ∃ j : Nat, i = .int .i64 j ∧ SaI w _ Fa ba La j wr) (fun i _ => La - (intOf i).toNat)
    case atStart => exact ⟨0, rfl, HST.out⟩
    case round =>
      obtain ⟨j, rfl, hI⟩ := hrel
      obtain ⟨_, _, _, _, _, _, _, _, x8, _⟩ := row10 hI.box
      have hjL := hI.le
      have HI := Lib.hid hI
      clear hI
      by_cases hj : j < La
      · obtain ⟨ea, hba2, _⟩ := HQA.out (by omega)
        subst ea
        have hr := HI.out.row (by omega)
        have z0 := hr.frozen
        obtain ⟨g0, d0⟩ := hr.cell (o := j * 4) (by omega)
        obtain ⟨g1, d1⟩ := hr.cell (o := j * 4 + 1) (by omega)
        obtain ⟨g2, d2⟩ := hr.cell (o := j * 4 + 2) (by omega)
        obtain ⟨g3, d3⟩ := hr.cell (o := j * 4 + 3) (by omega)
        have HN := Lib.hid (HI.out.next hj hba2 HFL.out (.int .u8 3) (.string ⟨#[]⟩) (.int .i64 0) (.slice none 0 0))
        clear hr hba2
        go_wp2
        go_roundw
        case rel => exact ⟨j + 1, by go_num, HN.out⟩
        case measure => simp [intOf]; omega
      · have hje : j = La := by omega
        have HT := Lib.hid (HST2.out _ _ HI.out)
        clear hje
        go_wp2
        clear hj hjL
        go_loopw [3] (fun i wr => ∃ j : Nat, i = .int .i64 j ∧ StI w _ k L b' (Fa ++ F) F j wr) (fun i _ => L - (intOf i).toNat)
        case atStart => exact ⟨0, rfl, HT.out⟩
        case round =>
          obtain ⟨j, rfl, hI⟩ := hrel
          obtain ⟨_, _, _, _, _, _, _, _, _, x9⟩ := row10 hI.box
          have hjL := hI.le
          have HI := Lib.hid hI
          clear hI
          by_cases hj : j < L
          · obtain ⟨r, G, hrl, hrb, hrs, hp, hgn, hin, hrow⟩ := HI.out.rest hj
            cases r with
            | nil => simp [TF.len] at hrl; omega
            | cons h0 k0 r =>
              obtain ⟨qa0, ca0, q0, cap0, Fa0, Fk0, G2, hd, ha0, ho0, rfl, hp2⟩ := hp.un
              have hq := HQ.out (by omega)
              subst hq
              have c0 := hd.c0
              have c1 := hd.c1
              have c2 := hd.c2
              have c3 := hd.c3
              have c4 := hd.c4
              have c5 := hd.c5
              have c6 := hd.c6
              have c7 := hd.c7
              have c8 := hd.c8
              have c9 := hd.c9
              have hsz : k0.size < n ∧ k0.bulk ≤ 1099511627776 ∧ h0.ak.size ≤ 1099511627776 := by simp [TF.size] at hrs; simp [TF.bulk] at hrb; omega
              have hg1 : (Fa0 ++ Fk0).Nodup := (List.nodup_append.1 (List.nodup_cons.1 hgn).2).1
              have HC : Hid (∀ W, Below wr.heap.size wr W → Calls Try.prog 49 #[.agg (tmV h0 qa0 ca0 q0 k0.len cap0)] W fun e w' => e = .returned (.tuple #[]) ∧ SpOut (Fa0 ++ Fk0) wr w') := Lib.hid fun W hb => by
                have hG : ∀ c ∈ Fa0 ++ Fk0, c < wr.heap.size := fun c hc => by have := HI.out.big c (hin c (List.mem_cons_of_mem _ (List.mem_append_left _ hc))); have := HI.out.out.size; omega
                refine (HIH.out h0 k0 qa0 ca0 q0 cap0 W Fa0 Fk0 hsz.1 (ha0.1.keep (fun c hc => hb.block c (hG c (by simp [hc])))) (ho0.keep (fun c hc => hb.block c (hG c (by simp [hc])))) hg1 (fun c hc => Nat.lt_of_lt_of_le (hG c hc) hb.size) ha0.2.1 ha0.2.2 hsz.2.2 hd.lc hd.cm hsz.2.1).mono ?_
                rintro e w' ⟨he, h2⟩
                exact ⟨he, (SpOut.of (F := Fa0 ++ Fk0) hb).trans h2 (fun c hc _ => hc)⟩
              have HN := Lib.hid (fun W2 (h2 : SpOut (Fa0 ++ Fk0) wr W2) => HI.out.next (fun x hx => by simp [hx]) hrl hrb hrs hp2 hgn hin hrow h2 (.int .u8 0) (.string ⟨#[]⟩) (.string ⟨#[]⟩) (.int .i64 0) (.bool false) (.int .u8 0) (.string ⟨#[]⟩) (.int .i64 0) (.slice none 0 0) (.slice none 0 0))
              unfold tmV at HC
              have HR : Hid (∀ W2, SpOut (Fa0 ++ Fk0) wr W2 → RowT W2 b' ∧ W2.heap[w.heap.size]? = wr.heap[w.heap.size]? ∧ W2.heap[b']? = wr.heap[b']?) := Lib.hid fun W2 h2 => by
                have e := h2.keep b' hrow.lt (fun hc => (List.nodup_cons.1 hgn).1 (List.mem_append_left _ hc))
                refine ⟨hrow.same e, h2.keep _ (Array.getElem?_eq_some_iff.1 HI.out.box).1 (fun hc => ?_), e⟩
                have := HI.out.big _ (hin w.heap.size (List.mem_cons_of_mem _ (List.mem_append_left _ hc)))
                omega
              have HX9 := Lib.hid x9
              have hj0 : (j : Int) < L := by omega
              have hj1 : (0 : Int) ≤ j := by omega
              clear hp hp2 ha0 ho0 hd hrow hin hgn hg1 hsz hrl hrb hrs
              generalize k0.len = g4 at *
              generalize h0.ak.len = g5 at *
              clear HIH HST HQ hn hc hm hl HT HST2
              go_wp2_with (go_at_call 49; refine (HC.out _ (by first | exact Below.refl _ _ | exact (Below.refl _ _).drew)).mono ?_; rintro e w2 ⟨rfl, hb2⟩; obtain ⟨hrb, hbx, hbe⟩ := HR.out _ hb2; have y9 := (cell_same hbx 9).trans HX9.out; have d0 := (cell_same hbe (j * 10)).trans c0; have d1 := (cell_same hbe (j * 10 + 1)).trans c1; have d2 := (cell_same hbe (j * 10 + 2)).trans c2; have d3 := (cell_same hbe (j * 10 + 3)).trans c3; have d4 := (cell_same hbe (j * 10 + 4)).trans c4; have d5 := (cell_same hbe (j * 10 + 5)).trans c5; have d6 := (cell_same hbe (j * 10 + 6)).trans c6; have d7 := (cell_same hbe (j * 10 + 7)).trans c7; have d8 := (cell_same hbe (j * 10 + 8)).trans c8; have d9 := (cell_same hbe (j * 10 + 9)).trans c9; have fz := hrb.frozen; have HN2 := Lib.hid (HN.out _ hb2); clear hb2 hbx hbe hrb)
              go_roundw
              case rel => exact ⟨j + 1, by go_num, HN2.out⟩
              case measure => simp [intOf]; omega
          · have hje : j = L := by omega
            have HJ := Lib.hid hje
            clear hje
            go_wp2
            go_end0
            exact ⟨rfl, HI.out.out⟩
end Go.Proofs.Ytcjhgefkbnbmnaa
