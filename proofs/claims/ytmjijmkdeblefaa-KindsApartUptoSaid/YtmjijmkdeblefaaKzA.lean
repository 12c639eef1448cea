/- spoil, of KindsApart's law: it writes into the tree's own memory alone. -/
import Derived.Test.YtmjijmkdeblefaaKx
namespace Go.Proofs.Ytmjijmkdeblefaa
open Go.RowKit LM
set_option linter.unusedVariables false

/-- Only blocks of F are written. -/
structure SpOut (F : List Nat) (w w' : World) : Prop where
  os : w'.os = w.os
  tape : w'.tape = w.tape
  output : w'.output = w.output
  size : w.heap.size ≤ w'.heap.size
  keep : ∀ b, b < w.heap.size → b ∉ F → w'.heap[b]? = w.heap[b]?
theorem SpOut.refl (F : List Nat) (w : World) : SpOut F w w := ⟨rfl, rfl, rfl, Nat.le_refl _, fun _ _ _ => rfl⟩
theorem SpOut.trans {F G : List Nat} {w w1 w2 : World} (h : SpOut F w w1) (h2 : SpOut G w1 w2) (hs : ∀ c ∈ G, c < w.heap.size → c ∈ F) : SpOut F w w2 :=
  ⟨h2.os.trans h.os, h2.tape.trans h.tape, h2.output.trans h.output, Nat.le_trans h.size h2.size, fun b hb hn => (h2.keep b (Nat.lt_of_lt_of_le hb h.size) (fun hc => hn (hs b hc hb))).trans (h.keep b hb hn)⟩
theorem SpOut.below {F : List Nat} {w w' : World} {B : Nat} (h : SpOut F w w') (hB : ∀ c ∈ F, B ≤ c) (hw : B ≤ w.heap.size) : Below B w w' :=
  ⟨h.os, h.tape, h.output, h.size, fun k hk => h.keep k (by omega) (fun hc => by have := hB k hc; omega)⟩
theorem SpOut.of {F : List Nat} {w w' : World} (h : Below w.heap.size w w') : SpOut F w w' := ⟨h.os, h.tape, h.output, h.size, fun b hb _ => h.block b hb⟩

/-- A part is stored at its place. -/
def World.put4 (W : World) (b o : Nat) (v0 v1 v2 v3 : Value) : World := (((W.setCell ⟨b, o, none⟩ v0).setCell ⟨b, o + 1, none⟩ v1).setCell ⟨b, o + 2, none⟩ v2).setCell ⟨b, o + 3, none⟩ v3
theorem put4_grown (W : World) (b o : Nat) (v0 v1 v2 v3 : Value) : W.grownBy (World.put4 W b o v0 v1 v2 v3) (some b) :=
  ⟨rfl, rfl, rfl, by simp [World.put4], fun k _ hk => by
    have hne : k ≠ b := fun e => hk (by rw [e])
    exact (Below.heap_setCell _ _ _ k hne).trans ((Below.heap_setCell _ _ _ k hne).trans ((Below.heap_setCell _ _ _ k hne).trans (Below.heap_setCell _ _ _ k hne)))⟩
theorem put4_row {W : World} {b : Nat} (h : RowB W b) (o : Nat) (v0 v1 v2 v3 : Value) : RowB (World.put4 W b o v0 v1 v2 v3) b := (((h.set _ _).set _ _).set _ _).set _ _
theorem put4_cell (W : World) (b o i : Nat) (v0 v1 v2 v3 : Value) (h : o + 4 ≤ i) : (World.put4 W b o v0 v1 v2 v3).cell? ⟨b, i, none⟩ = W.cell? ⟨b, i, none⟩ := by
  have e : ∀ j, j < o + 4 → (⟨b, j, none⟩ : Addr) ≠ ⟨b, i, none⟩ := fun j hj e => by have := congrArg Addr.off e; simp only at this; omega
  unfold World.put4
  rw [World.cell?_setCell_other (h := e _ (by omega)), World.cell?_setCell_other (h := e _ (by omega)), World.cell?_setCell_other (h := e _ (by omega)), World.cell?_setCell_other (h := e _ (by omega))]

/-- What spoil keeps: the parts from number j on are as they were. -/
structure SpI (w : World) (h : Hd) (k : Fo) (q : Option Addr) (cap L b' : Nat) (F : List Nat) (j : Nat) (W : World) : Prop where
  le : j ≤ L
  box : RowIs W w.heap.size #[.int .u8 h.op, .string h.name, .int .i64 h.n, .slice q L cap]
  out : SpOut F w W
  big : ∀ c ∈ F, c < w.heap.size
  rest : j < L → ∃ r G, r.len + j = L ∧ r.size ≤ k.size ∧ PT PendN W r b' (j * 4) [] [] G ∧ (b' :: G).Nodup ∧ (∀ c ∈ b' :: G, c ∈ F) ∧ RowB W b'

theorem SpI.next {w : World} {h : Hd} {k : Fo} {q : Option Addr} {cap L b' : Nat} {F : List Nat} {j : Nat} {W W2 : World} (hI : SpI w h k q cap L b' F j W)
    {h0 : Hd} {k0 r : Fo} {G1 G2 : List Nat} (hL : (Fo.cons h0 k0 r).len + j = L) (hsz : (Fo.cons h0 k0 r).size ≤ k.size) (hp : PT PendN W r b' (j * 4 + 4) [] [] G2) (hnd : (b' :: (G1 ++ G2)).Nodup) (hin : ∀ c ∈ b' :: (G1 ++ G2), c ∈ F) (hr : RowB W b')
    (h2 : SpOut G1 W W2) (v0 v1 v2 v3 : Value) : SpI w h k q cap L b' F (j + 1) (World.put4 W2 b' (j * 4) v0 v1 v2 v3) := by
  have hb := hI.box.lt
  have hbF : w.heap.size ∉ F := fun hc => by have := hI.big _ hc; omega
  have hnb : ∀ c ∈ G1, c ≠ b' := fun c hc e => (List.nodup_cons.1 hnd).1 (by simp [← e, hc])
  have hr2 : W2.heap[b']? = W.heap[b']? := h2.keep b' hr.lt (fun hc => hnb _ hc rfl)
  have hg := put4_grown W2 b' (j * 4) v0 v1 v2 v3
  have hrow := put4_row (hr.same hr2) (j * 4) v0 v1 v2 v3
  have hbb : b' ∈ F := hin b' (by simp)
  refine ⟨?_, ?_, ?_, hI.big, ?_⟩
  · simp [Fo.len] at hL; omega
  · have e1 : W2.heap[w.heap.size]? = W.heap[w.heap.size]? := h2.keep _ hb (fun hc => hbF (hin _ (by simp [hc])))
    have e2 := hg.block w.heap.size (Nat.lt_of_lt_of_le hb h2.size) (fun e => hbF (Option.some.inj e ▸ hbb))
    exact (e2.trans e1).trans hI.box
  · have hg2 : SpOut [b'] W2 (World.put4 W2 b' (j * 4) v0 v1 v2 v3) := ⟨hg.os, hg.tape, hg.output, hg.size, fun b hb hn => hg.block b hb (fun e => hn (by simp [Option.some.inj e]))⟩
    exact (hI.out.trans h2 (fun c hc _ => hin c (by simp [hc]))).trans hg2 (fun c hc _ => by simp at hc; rw [hc]; exact hbb)
  · intro hj
    refine ⟨r, G2, by simp [Fo.len] at hL; omega, by simp [Fo.size] at hsz; omega, ?_, ?_, fun c hc => hin c (by simp at hc ⊢; rcases hc with h | h <;> simp [h]), hrow⟩
    · rw [show (j + 1) * 4 = j * 4 + 4 from by omega]
      have hnd' := List.nodup_cons.1 hnd
      have hdis := (List.nodup_append.1 hnd'.2).2.2
      have hlt : ∀ c ∈ G2, c < W.heap.size := fun c hc => by have := hI.big c (hin c (by simp [hc])); have := hI.out.size; omega
      refine hp.keep (fun _ _ _ _ _ _ _ h _ _ => h) (fun i hi => (put4_cell W2 b' (j * 4) i v0 v1 v2 v3 hi).trans (cell_same hr2 i)) (fun c hc => ?_)
      have e1 := h2.keep c (hlt c hc) (fun hc1 => hdis c hc1 c hc rfl)
      exact (hg.block c (Nat.lt_of_lt_of_le (hlt c hc) h2.size) (fun e => hnd'.1 (by rw [← Option.some.inj e]; simp [hc]))).trans e1
    · have hnd' := List.nodup_cons.1 hnd
      exact List.nodup_cons.2 ⟨fun hc => hnd'.1 (by simp [hc]), (List.nodup_append.1 hnd'.2).2.1⟩

set_option maxRecDepth 100000 in
set_option maxHeartbeats 4000000 in
theorem spoil_any : ∀ (n : Nat) (h : Hd) (k : Fo) (q : Option Addr) (cap : Nat) (w : World) (F : List Nat), k.size < n → OwnF w q k F → F.Nodup → (∀ c ∈ F, c < w.heap.size) → k.len ≤ cap → cap ≤ maxLen → k.size ≤ 1099511627776 →
    Calls Try.prog 27 #[.agg #[.int .u8 h.op, .string h.name, .int .i64 h.n, .slice q k.len cap]] w fun e w' => e = .returned (.tuple #[]) ∧ SpOut F w w' := by
  intro n
  induction n with
  | zero => intro h k q cap w F hn; omega
  | succ n ih =>
    intro h k q cap w F hn ho hnd hF hl hc hm
    have hlm : k.len ≤ 1099511627776 := Nat.le_trans (Fo.len_le_size k) hm
    obtain ⟨L, hL⟩ : ∃ L, L = k.len := ⟨_, rfl⟩
    rw [← hL] at hl hlm ⊢
    obtain ⟨b', hb'⟩ : ∃ b', 0 < L → q = some ⟨b', 0, none⟩ := by
      rcases ho with ⟨h1, _⟩ | ⟨b', F', h1, _⟩
      · exact ⟨0, fun h => by omega⟩
      · exact ⟨b', fun _ => h1⟩
    have hst : SpI w h k q cap L b' F 0 (w.alloc (.cells #[.int .u8 h.op, .string h.name, .int .i64 h.n, .slice q L cap] 25)) := by
      refine ⟨Nat.zero_le _, World.alloc_heap_new w _, SpOut.of (below_box w _), hF, fun h0 => ?_⟩
      rcases ho with ⟨h1, _⟩ | ⟨b2, F', h1, rfl, h3, h4⟩
      · omega
      · have hbe : b2 = b' := by have := hb' h0; rw [h1] at this; exact congrArg Addr.block (Option.some.inj this)
        subst hbe
        have e : ∀ c ∈ b2 :: F', (w.alloc (.cells #[.int .u8 h.op, .string h.name, .int .i64 h.n, .slice q L cap] 25)).heap[c]? = w.heap[c]? := fun c hc => (below_box w _).block c (hF c hc)
        exact ⟨k, F', by omega, Nat.le_refl _, h4.keep (fun _ _ _ _ _ _ _ h _ _ => h) (fun i _ => cell_same (e b2 (by simp)) i) (fun c hc => e c (by simp [hc])), hnd, fun c hc => hc, h3.same (e b2 (by simp))⟩
    have HST := Lib.hid hst
    have HQ := Lib.hid hb'
    have HIH := Lib.hid ih
    unfold maxLen at hc
    clear hst ho hnd hF ih hL
    go_enter Try.func27, Try.ntmps27
    go_wp2
    go_loopw [2] (fun i wr => ∃ j : Nat, i = .int .i64 j ∧ SpI w h k q cap L b' F j wr) (fun i _ => L - (intOf i).toNat)
    case atStart => exact ⟨0, rfl, HST.out⟩
    case round =>
      obtain ⟨j, rfl, hI⟩ := hrel
      obtain ⟨x0, x1, x2, x3, _⟩ := row4 hI.box
      have hjL := hI.le
      have HI := Lib.hid hI
      clear hI
      by_cases hj : j < L
      · obtain ⟨r, G, hrl, hrs, hp, hgn, hin, hrow⟩ := HI.out.rest hj
        cases r with
        | nil => simp [Fo.len] at hrl; omega
        | cons h0 k0 r =>
          obtain ⟨q0, cap0, G1, G2, hd, ho, rfl, hp2⟩ := hp.un
          have hq := HQ.out (by omega)
          subst hq
          have c0 := hd.c0
          have c1 := hd.c1
          have c2 := hd.c2
          have c3 := hd.c3
          have hsz : k0.size < n ∧ k0.size ≤ 1099511627776 := by simp [Fo.size] at hrs; omega
          have hg1 : G1.Nodup := (List.nodup_append.1 (List.nodup_cons.1 hgn).2).1
          have HC : Hid (∀ W, Below wr.heap.size wr W → Calls Try.prog 27 #[.agg #[.int .u8 h0.op, .string h0.name, .int .i64 h0.n, .slice q0 k0.len cap0]] W fun e w' => e = .returned (.tuple #[]) ∧ SpOut G1 wr w') := Lib.hid fun W hb => by
            have hG : ∀ c ∈ G1, c < wr.heap.size := fun c hc => by have := HI.out.big c (hin c (by simp [hc])); have := HI.out.out.size; omega
            refine (HIH.out h0 k0 q0 cap0 W G1 hsz.1 (ho.keep (fun c hc => hb.block c (hG c hc))) hg1 (fun c hc => Nat.lt_of_lt_of_le (hG c hc) hb.size) hd.lc hd.cm hsz.2).mono ?_
            rintro e w' ⟨he, h2⟩
            exact ⟨he, (SpOut.of (F := G1) hb).trans h2 (fun c hc _ => hc)⟩
          have HN := Lib.hid (fun W2 (h2 : SpOut G1 wr W2) => HI.out.next hrl hrs hp2 hgn hin hrow h2 (.int .u8 3) (.string ⟨#[]⟩) (.int .i64 0) (.slice none 0 0))
          have HR : Hid (∀ W2, SpOut G1 wr W2 → RowB W2 b' ∧ RowIs W2 w.heap.size #[.int .u8 h.op, .string h.name, .int .i64 h.n, .slice (some ⟨b', 0, none⟩) L cap] ∧ W2.heap[b']? = wr.heap[b']?) := Lib.hid fun W2 h2 => by
            have e := h2.keep b' hrow.lt (fun hc => (List.nodup_cons.1 hgn).1 (by simp [hc]))
            refine ⟨hrow.same e, (h2.keep _ HI.out.box.lt (fun hc => ?_)).trans HI.out.box, e⟩
            have := HI.out.big _ (hin w.heap.size (by simp [hc]))
            omega
          have hj0 : (j : Int) < L := by omega
          have hj1 : (0 : Int) ≤ j := by omega
          clear hp hp2 ho hd hrow hin hgn hg1 hsz hrl hrs
          generalize h0.op = g1 at *
          generalize h0.name = g2 at *
          generalize h0.n = g3 at *
          generalize k0.len = g4 at *
          clear HIH HST HQ hn hc hm hl
          go_wp2_with (go_at_call 27; refine (HC.out _ (by first | exact Below.refl _ _ | exact (Below.refl _ _).drew)).mono ?_; rintro e w2 ⟨rfl, hb2⟩; obtain ⟨hrb, hbx, hbe⟩ := HR.out _ hb2; obtain ⟨y0, y1, y2, y3, _⟩ := row4 hbx; have d0 := (cell_same hbe (j * 4)).trans c0; have d1 := (cell_same hbe (j * 4 + 1)).trans c1; have d2 := (cell_same hbe (j * 4 + 2)).trans c2; have d3 := (cell_same hbe (j * 4 + 3)).trans c3; have fz := hrb.frozen; have HN2 := Lib.hid (HN.out _ hb2); clear hb2 hbx hbe hrb)
          go_roundw
          case rel => exact ⟨j + 1, by go_num, HN2.out⟩
          case measure => simp [intOf]; omega
      · have hje : j = L := by omega
        have HJ := Lib.hid hje
        clear hje
        go_wp2
        go_end0
        exact ⟨rfl, HI.out.out⟩

set_option maxRecDepth 100000 in
/-- Rec gives a tree of its own. -/
theorem Rec_own (h : Hd) (k : Fo) (q : Option Addr) (cap : Nat) (w : World) (hh : h.ok) (hs : SlF w q cap k) (hk : k.ok) (hsz : 2 + k.size ≤ 1099511627776) :
    Calls Try.prog 29 #[.agg #[.int .u8 h.op, .string h.name, .int .i64 h.n, .slice q k.len cap]] w (CopPost w ⟨5, ⟨#[]⟩, 0⟩ (.cons h k .nil)) := by
  obtain ⟨W, hWd⟩ : ∃ W, W = ((w.alloc (.cells #[.int .u8 h.op, .string h.name, .int .i64 h.n, .slice q k.len cap] 25)).alloc (.cells #[.int .u8 0, .string ⟨#[]⟩, .int .i64 0, .slice none 0 0] 25)).alloc (.cells #[.int .u8 h.op, .string h.name, .int .i64 h.n, .slice q k.len cap] 25) := ⟨_, rfl⟩
  have hbW : Below w.heap.size w W := by rw [hWd]; exact (((below_box _ _).alloc (by simp) _).alloc (by simp; omega) _)
  have hx1 : W.heap[w.heap.size + 2]? = some (.cells #[.int .u8 h.op, .string h.name, .int .i64 h.n, .slice q k.len cap] 25 (0, 0)) := by
    have := World.alloc_heap_new ((w.alloc (.cells #[.int .u8 h.op, .string h.name, .int .i64 h.n, .slice q k.len cap] 25)).alloc (.cells #[.int .u8 0, .string ⟨#[]⟩, .int .i64 0, .slice none 0 0] 25)) (.cells #[.int .u8 h.op, .string h.name, .int .i64 h.n, .slice q k.len cap] 25)
    simp only [World.size_alloc] at this
    rw [hWd]; exact this
  have hx2 : W.heap[w.heap.size + 1]? = some (.cells #[.int .u8 0, .string ⟨#[]⟩, .int .i64 0, .slice none 0 0] 25 (0, 0)) := by
    have := World.alloc_heap_new (w.alloc (.cells #[.int .u8 h.op, .string h.name, .int .i64 h.n, .slice q k.len cap] 25)) (.cells #[.int .u8 0, .string ⟨#[]⟩, .int .i64 0, .slice none 0 0] 25)
    simp only [World.size_alloc] at this
    rw [hWd]; exact ((below_box _ _).block _ (by simp)).trans this
  have hsz3 : W.heap.size = w.heap.size + 3 := by rw [hWd]; simp
  have HC := Lib.hid (copied_any ⟨5, ⟨#[]⟩, 0⟩ (.cons h k .nil) (some ⟨w.heap.size + 2, 0, none⟩) 1 W (hd_ok (by omega) (by omega) (by decide)) (one_fo hx1 (hs.below hbW)) ⟨hh, hk, trivial⟩ (by simp [Fo.size]; omega))
  have HX := Lib.hid hx2
  have HW := Lib.hid hbW
  have HZ := Lib.hid hsz3
  have HWD := Lib.hid hWd
  clear hs hk hbW hx1 hx2 hsz3 hWd
  go_enter Try.func29, Try.ntmps29
  go_wp2_with fail
  rw [← HWD.out]
  refine HC.out.mono ?_
  rintro e w2 ⟨q', cap', F, rfl, h1, h2, hown, hnd, hF, hb⟩
  have hres := (hb.block _ (by rw [HZ.out]; omega)).trans HX.out
  obtain ⟨y0, y1, y2, y3, z0, z1, z2, z3⟩ := row4 hres
  have hg := set4_grown w2 (w.heap.size + 1) (.int .u8 5) (.string ⟨#[]⟩) (.int .i64 0) (.slice q' (Fo.cons h k .nil).len cap')
  have HE : Hid (CopPost w ⟨5, ⟨#[]⟩, 0⟩ (.cons h k .nil) (.returned (.agg #[.int .u8 5, .string ⟨#[]⟩, .int .i64 0, .slice q' (Fo.cons h k .nil).len cap'])) (World.set4 w2 (w.heap.size + 1) (.int .u8 5) (.string ⟨#[]⟩) (.int .i64 0) (.slice q' (Fo.cons h k .nil).len cap'))) := Lib.hid (by
    have b2 := below_then HW.out hb
    have z := HZ.out
    refine ⟨q', cap', F, rfl, h1, h2, hown.keep (fun c hc => hg.block c (hF c hc).2 (fun e => by have := Option.some.inj e; have := (hF c hc).1; omega)), hnd, fun c hc => ⟨?_, Nat.lt_of_lt_of_le (hF c hc).2 hg.size⟩, b2.grown hg b2.size (fun r e => by have := Option.some.inj e; omega)⟩
    have := (hF c hc).1
    omega)
  clear hown hF hb hres HX hnd hg
  go_wp2
  exact bodyPost_ret (v := .agg #[.int .u8 5, .string ⟨#[]⟩, .int .i64 0, .slice q' (Fo.cons h k .nil).len cap']) (by simp [results, Try.results29, go_sem, y0, y1, y2, y3]) rfl HE.out
end Go.Proofs.Ytmjijmkdeblefaa
