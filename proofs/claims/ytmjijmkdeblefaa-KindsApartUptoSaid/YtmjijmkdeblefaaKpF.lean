/- Put, of what is right. -/
import Derived.Test.YtmjijmkdeblefaaKpE
import Derived.Test.YtmjijmkdeblefaaKdY
namespace Go.Proofs.Ytmjijmkdeblefaa
open Go.RowKit Go.Shelf LM
set_option linter.unusedVariables false
attribute [local go_sem] Oper.semAt_some

/-- The world between: the tree copied, both found right, the Op of what is sought laid. -/
structure PutM (w : World) (h : Hd) (k : Fo) (q : Option Addr) (cap : Nat) (n : Int) (H : Hd) (K : Fo) (Q : Option Addr) (C : Nat) (op : Int) (B0 : Nat) (q1 : Option Addr) (c1 : Nat) (F1 : List Nat) (W : World) : Prop where
  b : PutB w h k q cap n H K Q C W
  o : W.heap[B0]? = some (.cells #[.int .u8 h.op, .string h.name, .int .i64 h.n, .slice q1 k.len c1] 25 (0, 0))
  own : OwnF W q1 k F1
  nd : (B0 :: F1).Nodup
  big : ∀ c ∈ B0 :: F1, w.heap.size + 4 ≤ c ∧ c < W.heap.size
  l : k.len ≤ c1
  m : c1 ≤ maxLen
theorem PutM.go {w : World} {h : Hd} {k : Fo} {q : Option Addr} {cap : Nat} {n : Int} {H : Hd} {K : Fo} {Q : Option Addr} {C : Nat} {op : Int} {B0 : Nat} {q1 : Option Addr} {c1 : Nat} {F1 : List Nat} {W W' : World} (hp : PutM w h k q cap n H K Q C op B0 q1 c1 F1 W) (hb : Below W.heap.size W W') :
    PutM w h k q cap n H K Q C op B0 q1 c1 F1 W' :=
  ⟨hp.b.go hb, (hb.block _ (hp.big B0 (by simp)).2).trans hp.o, hp.own.keep (fun c hc => hb.block _ (hp.big c (by simp [hc])).2), hp.nd, fun c hc => ⟨(hp.big c hc).1, Nat.lt_of_lt_of_le (hp.big c hc).2 hb.size⟩, hp.l, hp.m⟩

/-- What is kept while the places are gathered. -/
def PlA (op n : Int) (Bo Bp base : Nat) (pre : List (Pl × (Hd × Fo))) (D : Nat → Prop) (W : World) : Prop :=
  ∃ v, Boxed W Bp 69 v ∧ W.ownsRow base 64 1 v (sel op n pre).length ((sel op n pre).map Pl.ptr) ∧ Boxed W Bo 22 (.int .u8 op) ∧ ∀ g, v.ownBlock = some g → D g
theorem PlA.kept {op n : Int} {Bo Bp base : Nat} {pre : List (Pl × (Hd × Fo))} {D : Nat → Prop} {X Y : World} {row : Option Nat} (h : PlA op n Bo Bp base pre D X) (hg : X.grownBy Y row) (hr : ∀ r, row = some r → base ≤ r ∧ ¬ D r) (h1 : Bo < base) (h2 : Bp < base) :
    PlA op n Bo Bp base pre D Y := by
  obtain ⟨v, h3, h4, h5, h6⟩ := h
  have hv : v.ownBlock = none ∨ v.ownBlock ≠ row := by
    cases hv : v.ownBlock with
    | none => exact .inl rfl
    | some g => exact .inr fun e => (hr g e.symm).2 (h6 g hv)
  refine ⟨v, h3.kept hg (fun e => ?_), h4.kept hg hv, h5.kept hg (fun e => ?_), h6⟩
  · have := (hr _ e.symm).1; omega
  · have := (hr _ e.symm).1; omega

theorem grown_below {W W' : World} (h : Below W.heap.size W W') : W.grownBy W' none := ⟨h.os, h.tape, h.output, h.size, fun k hk _ => h.block k hk⟩
theorem own_value {w : World} {base : Nat} {e : TypeId} {size : Nat} {v : Value} {n : Nat} {xs : List Value} (h : w.ownsRow base e size v n xs) : ∃ a cap, v = .slice a n cap := by
  rcases h.2 with ⟨rfl, h0⟩ | ⟨g, cap, cur, rfl, _⟩
  · exact ⟨none, 0, by rw [h0]⟩
  · exact ⟨_, cap, rfl⟩
theorem PlA.snoc {op n : Int} {Bo Bp base B : Nat} {pre : List (Pl × (Hd × Fo))} {D : Nat → Prop} {W w1 : World} {v v' : Value} {p : Pl} {xn : ByteArray} {xk : Fo} {nq : Nat} {tmp : Obj} {L : Nat}
    (hL : (sel op n pre).length = L) (hbp : Boxed W Bp 69 v) (hbo : Boxed W Bo 22 (.int .u8 op)) (hvD : ∀ g, v.ownBlock = some g → D g ∧ base ≤ g) (hD : ∀ b, D b → b < W.heap.size) (h1 : B ≤ Bp) (h2 : Bp < base) (h3 : Bo < base) (h4 : Bo ≠ Bp) (h5 : base ≤ W.heap.size)
    (hown : w1.ownsRow base 64 1 v' (L + 1) ((sel op n pre).map Pl.ptr ++ [.pointer (some ⟨p.1, p.2, none⟩)])) (hg : ((W.drewN nq).alloc tmp).grownBy w1 v.ownBlock) (hat : v'.ownBlock = v.ownBlock ∨ v'.ownBlock = some ((W.drewN nq).alloc tmp).heap.size) :
    Boxed w1 Bp 69 v ∧ ∃ D', Tch base D D' W (w1.setCell ⟨Bp, 0, none⟩ v') ∧ Below B W (w1.setCell ⟨Bp, 0, none⟩ v') ∧ PlA op n Bo Bp base (pre ++ [(p, ((⟨op, xn, n⟩ : Hd), xk))]) D' (w1.setCell ⟨Bp, 0, none⟩ v') := by
  have hd : Below W.heap.size W (W.drewN nq) := below_drewN (Below.refl _ _) nq
  have hds : (W.drewN nq).heap.size = W.heap.size := by simp
  have ha : Below W.heap.size W ((W.drewN nq).alloc tmp) := hd.alloc (by rw [hds]; exact Nat.le_refl _) tmp
  have hsz : ((W.drewN nq).alloc tmp).heap.size = W.heap.size + 1 := by simp
  have hg1 := hg.size
  rw [hsz] at hg1 hat
  have hne : ∀ {b : Nat}, b < base → some b ≠ v.ownBlock := fun hb e => by have := (hvD _ e.symm).2; omega
  have k1 : ∀ b, b < W.heap.size → some b ≠ v.ownBlock → w1.heap[b]? = W.heap[b]? := fun b hb hn => (hg.block b (by rw [hsz]; omega) hn).trans (ha.block b hb)
  have hbp1 : Boxed w1 Bp 69 v := (k1 Bp (by omega) (hne h2)).trans hbp
  have hbo1 : Boxed w1 Bo 22 (.int .u8 op) := (k1 Bo (by omega) (hne h3)).trans hbo
  have hset := grownBy_setCell' w1 Bp v'
  have hlt := hown.lt
  refine ⟨hbp1, fun b => D b ∨ v'.ownBlock = some b, ⟨?_, ?_, ?_, fun b h => .inl h⟩, ⟨?_, ?_, ?_, ?_, ?_⟩, v', hbp1.set v', ?_, hbo1.kept hset (fun e => h4 (Option.some.inj e)), fun g hg => .inr hg⟩
  · have := hset.size; omega
  · intro b hb hlt2 hnd
    have hn : some b ≠ v.ownBlock := fun e => hnd (hvD b e.symm).1
    exact (hset.block b (by omega) (fun e => by have := Option.some.inj e; omega)).trans (k1 b hlt2 hn)
  · rintro b (hb | hb)
    · exact .inl hb
    · rcases hat with e | e
      · exact .inl (hvD b (e ▸ hb)).1
      · right
        have hb2 : b = W.heap.size + 1 := by rw [e] at hb; exact (Option.some.inj hb).symm
        have h6 := (hlt b hb).2
        have := hset.size
        exact ⟨by omega, by omega⟩
  · exact hset.os.trans (hg.os.trans ha.os)
  · exact hset.tape.trans (hg.tape.trans ha.tape)
  · exact hset.output.trans (hg.output.trans ha.output)
  · have := hset.size; omega
  · intro b hb
    exact (hset.block b (by omega) (fun e => by have := Option.some.inj e; omega)).trans (k1 b (by omega) (hne (by omega)))
  · rw [sel_append, sel_yes (op := op) (n := n) (p := p) (x := ((⟨op, xn, n⟩ : Hd), xk)) rfl rfl, List.length_append, hL, List.map_append]
    have hk := hown.kept hset (.inr fun e => by have := (hlt _ e).1; omega)
    simpa [sel, Pl.ptr] using hk

theorem PutI.fin2 {Wm : World} {B0 : Nat} {F0 : List Nat} {f : Fo} {H : Hd} {K : Fo} {pl : List Pl} {L : Nat} {W W' : World} (h : PutI Wm B0 F0 f H K pl L W) (hL : pl.length = L) (hs : ∀ b, (b = B0 ∨ b ∈ F0 ∨ Wm.heap.size ≤ b) → b < W.heap.size → W'.heap[b]? = W.heap[b]?) : FoAt W' f B0 0 := by
  obtain ⟨F, hpt, _, hF⟩ := h.pt
  subst hL
  rw [List.drop_length, Nat.sub_self] at hpt
  exact (hpt.keep PendV.loc (fun i _ => cell_same (hs B0 (.inl rfl) h.row.lt) i) (fun c hc => hs c (.inr (hF c hc).1) (hF c hc).2)).fo
theorem PutI.old {Wm : World} {B0 : Nat} {F0 : List Nat} {f : Fo} {H : Hd} {K : Fo} {pl : List Pl} {j : Nat} {W : World} (h : PutI Wm B0 F0 f H K pl j W) {N : Nat} (hN : ∀ c ∈ B0 :: F0, N ≤ c) (hm : N ≤ Wm.heap.size) : Below N Wm W :=
  ⟨h.low.os, h.low.tape, h.low.output, h.low.size, fun b hb => h.same b (by omega) (fun e => by have := hN B0 (by simp); omega) (fun hc => by have := hN b (by simp [hc]); omega)⟩
theorem fo_one {W : World} {b : Nat} {h : Hd} {k : Fo} (hf : FoAt W (.cons h k .nil) b 0) : ∃ q cap, HdAt W b 0 h q k.len cap ∧ SlF W q cap k := by
  obtain ⟨q, cap, hh, hk, _⟩ := hf
  exact ⟨q, cap, hh, hh.lc, hh.cm, hk⟩

set_option maxRecDepth 100000 in
set_option maxHeartbeats 4000000 in
theorem Put_yes1 (op : Int) (hop : op = 7) (h : Hd) (k : Fo) (q : Option Addr) (cap : Nat) (n : Int) (H : Hd) (K : Fo) (Q : Option Addr) (C : Nat) (w : World) (hh : h.ok) (hs : SlF w q cap k) (hk : k.ok) (hsz : 1 + k.size ≤ 1099511627776)
    (hh' : H.ok) (hs' : SlF w Q C K) (hk' : K.ok) (hsz' : 1 + K.size ≤ 1099511627776) (hr1 : riB h k = true) (hr2 : riB H K = true) (hsort : sortO H.op = 1) :
    Calls Try.prog 28 #[.agg #[.int .u8 h.op, .string h.name, .int .i64 h.n, .slice q k.len cap], .int .i64 n, .agg #[.int .u8 H.op, .string H.name, .int .i64 H.n, .slice Q K.len C]] w (TrPost w (putT op n H K h k).1 (putT op n H K h k).2) := by
  refine (callsIn_wide (n := 9)).1 ?_
  have HC := Lib.hid fun w' (hb : Below w.heap.size w w') => copied_any h k q cap w' hh (hs.below hb) hk hsz
  have HC2 := Lib.hid fun w' (hb : Below w.heap.size w w') => copied_any H K Q C w' hh' (hs'.below hb) hk' hsz'
  have HR1 : Hid (∀ w', Below w.heap.size w w' → Calls Try.prog 54 #[.agg #[.int .u8 h.op, .string h.name, .int .i64 h.n, .slice q k.len cap]] w' fun e w'' => e = .returned (.bool true) ∧ Below w'.heap.size w' w'') :=
    Lib.hid fun w' hb => by rw [← hr1]; exact right_any h k q cap w' hh (hs.below hb) hk hsz
  have HR2 : Hid (∀ w', Below w.heap.size w w' → Calls Try.prog 54 #[.agg #[.int .u8 H.op, .string H.name, .int .i64 H.n, .slice Q K.len C]] w' fun e w'' => e = .returned (.bool true) ∧ Below w'.heap.size w' w'') :=
    Lib.hid fun w' hb => by rw [← hr2]; exact right_any H K Q C w' hh' (hs'.below hb) hk' hsz'
  have HSO : Hid (∀ w', Calls Try.prog 70 #[.int .u8 H.op] w' fun e w'' => e = .returned (.int .u8 1) ∧ w' = w'') := Lib.hid fun w' => by have := ksort_any H.op w' hh'.op0 hh'.op1; rw [hsort] at this; exact this
  have HFT := Lib.hid (riB_fits hr1)
  have HP := Lib.hid parts_any
  have HS := Lib.hid (PutB.start w h k q cap n H K Q C)
  have HHK := Lib.hid (And.intro hh hk)
  have hall := length_one h k
  have HSZ : Hid ((flatL [(h, k)]).length ≤ 1099511627776) := Lib.hid (by rw [hall]; exact hsz)
  clear hs hk hs' hk' hh hh' hsz hsz' hr1 hr2 hsort hall
  refine callsIn_of_wp_marks Try.func28 rfl trivial ?_ rfl
  simp only [Try.ntmps28, List.size_toArray, List.length_cons, List.length_nil, Nat.reduceAdd, Nat.reduceSub, Array.replicate_succ, Array.replicate_zero, List.push_toArray, List.append_toArray, List.nil_append, List.cons_append]
  gi_wp2_with fail
  refine ⟨trivial, ?_⟩
  refine (callsIn_wide.2 (HC.out _ HS.out.below)).mono ?_
  rintro e w1 ⟨q1, c1, F1, rfl, hl1, hm1, hown1, hnd1, hF1, hb1⟩
  have hS1 := HS.out.go hb1
  have hM : PutM w h k q cap n H K Q C op w1.heap.size q1 c1 F1 (w1.alloc (.cells #[.int .u8 h.op, .string h.name, .int .i64 h.n, .slice q1 k.len c1] 25)) := by
    have hB := below_box w1 (.cells #[.int .u8 h.op, .string h.name, .int .i64 h.n, .slice q1 k.len c1] 25)
    refine ⟨hS1.go hB, World.alloc_heap_new w1 _, hown1.keep (fun c hc => hB.block _ (hF1 c hc).2), List.nodup_cons.2 ⟨fun hc => by have := (hF1 _ hc).2; omega, hnd1⟩, fun c hc => ?_, hl1, hm1⟩
    have hro := hS1.room
    rcases List.mem_cons.1 hc with h1 | h1
    · subst h1; exact ⟨hro, by simp⟩
    · have := hF1 c h1; simp at this; exact ⟨by omega, by simp; omega⟩
  obtain ⟨a0, a1, a2, a3, _⟩ := row4 hS1.b0
  obtain ⟨d0, d1, d2, d3, _⟩ := row4 hS1.b2
  have hz1 : w.heap.size + 3 < w1.heap.size := hS1.room
  have hz0 : w.heap.size < w1.heap.size := by omega
  have hz2 : w.heap.size + 1 + 1 < w1.heap.size := by omega
  have HM := Lib.hid hM
  clear hS1 hF1 hb1 hM hown1 hnd1
  gi_wp2_with fail
  refine ⟨trivial, ?_⟩
  refine (callsIn_wide.2 (HR1.out _ HM.out.b.below)).mono ?_
  rintro e w3 ⟨rfl, hb3⟩
  have hM3 := HM.out.go hb3
  obtain ⟨a0, a1, a2, a3, _⟩ := row4 hM3.b.b0
  obtain ⟨d0, d1, d2, d3, _⟩ := row4 hM3.b.b2
  have HM3 := Lib.hid hM3
  clear hM3 hb3
  gi_wp2_with fail
  refine ⟨trivial, ?_⟩
  refine (callsIn_wide.2 (HR2.out _ HM3.out.b.below)).mono ?_
  rintro e w4 ⟨rfl, hb4⟩
  have hM4 := HM3.out.go hb4
  obtain ⟨a0, a1, a2, a3, _⟩ := row4 hM4.b.b0
  obtain ⟨d0, d1, d2, d3, _⟩ := row4 hM4.b.b2
  have hn1 := hM4.b.b1.cell
  have hro : w.heap.size + 3 < w4.heap.size := hM4.b.room
  have hz0 : w.heap.size < w4.heap.size := by omega
  have hz01 : w.heap.size + 1 < w4.heap.size := by omega
  have hz2 : w.heap.size + 1 + 1 < w4.heap.size := by omega
  have hzo := (hM4.big w1.heap.size (by simp)).2
  have HM4 := Lib.hid hM4
  clear hM4 hb4
  have HOP := Lib.hid hop
  clear hop
  gi_wp2_with (first | (refine ⟨trivial, ?_⟩; gi_at_call 70; refine (callsIn_wide.2 (HSO.out _)).mono ?_; rintro e w' ⟨rfl, rfl⟩) | (refine ⟨trivial, ?_⟩; gi_at_call 57; refine (callsIn_wide.2 (HP.out _ _)).mono ?_; rintro e w' ⟨rfl, rfl⟩))
  rw [← HOP.out]
  refine range_place rfl (by omega) (Bn := w4.heap.size + 1 + 1) rfl trivial (w1.heap.size, 0) ?c1 rfl w4 ?c2 (h, k) ?c3 ?c4 HSZ.out
    (fun pre D W => PlA op n w4.heap.size (w4.heap.size + 1) (w4.heap.size + 3) pre D W) ?hA ?c5 ?a1 ?assign ?body ?done
  case assign =>
    intro l p W K hK
    gi_wp2
    exact hK
  case c1 => exact Boxed.cell (by have := Boxed.new ((w4.alloc (.cells #[.int .u8 op] 22)).alloc (.cells #[.slice none 0 0] 69)) 64 (.pointer (some ⟨w1.heap.size, 0, none⟩)); simpa only [World.size_alloc] using this)
  case c2 => exact ((below_box w4 _).alloc (by simp) _).alloc (by simp; omega) _
  case c3 =>
    have ho := HM4.out.o
    refine ⟨⟨q1, c1, ⟨?_, ?_, ?_, ?_, hl1, hm1⟩, HM4.out.own.slF hl1 hm1⟩, trivial⟩ <;> simp [World.cell?, ho]
  case c4 => intro t ht; simp at ht; subst ht; exact HHK.out
  case hA => exact fun pre D X Y row hx hg hr => hx.kept hg (fun r e => by have := hr r e; simpa using this) (by omega) (by omega)
  case c5 =>
    have b1 := Boxed.new w4 22 (.int .u8 op)
    have b2 := Boxed.new (w4.alloc (.cells #[.int .u8 op] 22)) 69 (.slice none 0 0)
    rw [World.size_alloc] at b2
    exact ⟨_, b2.alloc _, World.ownsRow_nil _ _ _ _, (b1.alloc _).alloc _, fun g hg => by cases hg⟩
  case body =>
    rintro l pre x rest p D W he hB ⟨q2, cap2, hhd, hsl⟩ hlt hx1 hx2 hW hD hpa
    obtain ⟨v, hbp, hown, hbo, hvD⟩ := hpa
    obtain ⟨⟨xo, xn, xm⟩, xk⟩ := x
    have c0 := hhd.c0
    have c2 := hhd.c2
    have hn1 := (HM4.out.go hB).b.b1.cell
    have hpc := hbp.cell
    have hpf := hbp.frozen
    have hoc := hbo.cell
    have hrn := hx1.n0
    have hrn2 := hx1.n1
    have HX1 := Lib.hid hx1
    have HE := Lib.hid he
    have HPA : Hid (PlA op n w4.heap.size (w4.heap.size + 1) (w4.heap.size + 3) pre D W) := Lib.hid ⟨v, hbp, hown, hbo, hvD⟩
    have HO := Lib.hid hown
    have HVD := Lib.hid hvD
    have HBP := Lib.hid hbp
    have HBO := Lib.hid hbo
    clear he hbp hown hbo hvD hx1 hx2
    simp only at c0 c2
    have hno : ¬ (xo = op ∧ xm = n) → ∀ nq, ∃ D', Tch (w4.heap.size + 3) D D' W (W.drewN nq) ∧ Below w4.heap.size W (W.drewN nq) ∧ PlA op n w4.heap.size (w4.heap.size + 1) (w4.heap.size + 3) (pre ++ [(p, ((⟨xo, xn, xm⟩ : Hd), xk))]) D' (W.drewN nq) := fun hc nq => by
      have hg := grown_below (below_drewN (Below.refl W.heap.size W) nq)
      have hp2 := HPA.out.kept hg (fun r e => by cases e) (by omega) (by omega)
      refine ⟨D, Tch.grown hg (fun r e => by cases e), below_drewN (Below.refl _ _) nq, ?_⟩
      unfold PlA at hp2 ⊢
      rw [sel_append, sel_no hc, show sel op n [] = [] from rfl, List.append_nil]
      exact hp2
    have HNO := Lib.hid hno
    clear hno
    by_cases h1 : xo = op
    · subst h1
      by_cases h2 : xm = n
      · subst h2
        obtain ⟨i0, hi, hz0, hz1, hz2⟩ := info_parts info56
        obtain ⟨a, cp, rfl⟩ := own_value HO.out
        have hlen : (sel xo xm pre).length ≤ 1099511627776 := by
          have h1 := length_sel xo xm pre
          have h2 : (allL w4 [(w1.heap.size, 0)] [(h, k)]).length = (flatL [(h, k)]).length := by rw [← allL_snd w4 (st := [(w1.heap.size, 0)]) (ts := [(h, k)]) rfl, List.length_map]
          have h3 := HSZ.out
          rw [← h2, HE.out] at h3
          simp at h3; omega
        have hvd : ∀ g, (Value.slice a (sel xo xm pre).length cp).ownBlock = some g → D g ∧ w4.heap.size + 3 ≤ g := fun g hg => ⟨HVD.out g hg, (HO.out.lt g hg).1⟩
        have HVD2 := Lib.hid hvd
        have hW2 : w4.heap.size + 3 ≤ W.heap.size := by simpa using hW
        have hDW : ∀ b, D b → b < W.heap.size := hD
        have HD := Lib.hid hDW
        have hbo2 := HBO.out
        generalize hLd : (sel xo xm pre).length = L at *
        have HL := Lib.hid hLd
        clear hLd hvd hDW hD hbo2
        gi_wp2
        refine region_quiet_round rfl (by kernel_rfl) (by kernel_rfl) (noDefer_spec (by kernel_rfl)) ?_
        repeat (quiet_step_in (fail))
        refine wpQuietIn_nil ?_
        intro _ hw'
        obtain ⟨nq, hw''⟩ := hw'
        subst hw''
        have hown1 := own_grown HO.out (below_drewN (Below.refl W.heap.size W) nq)
        have hdz : (W.drewN nq).heap.size = W.heap.size := by simp
        have hk1 := cell_one_new (W.drewN nq) (.pointer (some ⟨p.1, p.2, none⟩)) 64
        rw [hdz] at hk1
        have HK1 := Lib.hid hk1
        have HDZ := Lib.hid hdz
        clear hk1
        clear hdz
        gi_wp2_with (gi_at_builtin; (refine wpListIn_append_own_at _ rfl (.tmp 44) (.tmp 46) 69 rfl (w4.heap.size + 3) 64 i0 (.pointer none) 1 8 Try.underlying69 hi hz0 hz1 hz2 rfl (by decide) _ _ _ rfl (hown1.alloc _) ⟨W.heap.size, 0, none⟩ 1 1 [.pointer (some ⟨p.1, p.2, none⟩)] rfl rfl HK1.out (by simp [Value.oneCell']) (by unfold maxLen; omega) (by omega) (by rw [World.size_alloc, HDZ.out]; omega) ?_); intro v' w5 hown2 hgrow _ hat; obtain ⟨a5, cp5, rfl⟩ := own_value hown2; go_loud (obtain ⟨hb5, hfin5⟩ := PlA.snoc (B := w4.heap.size) (xn := xn) (xk := xk) HL.out HBP.out HBO.out HVD2.out HD.out (by omega) (by omega) (by omega) (by omega) hW2 hown2 hgrow hat); have hc5 := hb5.cell; have hf5 := hb5.frozen; have HF5 := Lib.hid hfin5; clear hown2 hgrow hat hfin5)
        gi_wp2
        (show ∃ D', _); simp only [World.size_alloc]; exact HF5.out
      · have h2' : (xm == n) = false := by simpa using h2
        have HQ := Lib.hid (HNO.out (fun hc => h2 hc.2))
        clear h2
        gi_wp2
        refine region_quiet_round rfl (by kernel_rfl) (by kernel_rfl) (noDefer_spec (by kernel_rfl)) ?_
        repeat (quiet_step_in (fail))
        refine wpQuietIn_nil ?_
        intro _ hw'
        obtain ⟨nq, hw''⟩ := hw'
        subst hw''
        gi_wp2
        (show ∃ D', _); simp only [World.size_alloc]; exact HQ.out nq
    · have h1' : (xo == op) = false := by simpa using h1
      have HQ := Lib.hid (HNO.out (fun hc => h1 hc.1))
      clear h1
      gi_wp2
      refine region_quiet_round rfl (by kernel_rfl) (by kernel_rfl) (noDefer_spec (by kernel_rfl)) ?_
      repeat (quiet_step_in (fail))
      refine wpQuietIn_nil ?_
      intro _ hw'
      obtain ⟨nq, hw''⟩ := hw'
      subst hw''
      gi_wp2
      (show ∃ D', _); simp only [World.size_alloc]; exact HQ.out nq
  case done =>
    rintro K' D W hK hDK hB ⟨v, hbp, hown, hbo, hvD⟩ hKd
    have hM := HM4.out.go hB
    have hall : allL w4 [(w1.heap.size, 0)] [(h, k)] = allF w4 (.cons h k .nil) w1.heap.size 0 := by simp [allL, allF]
    have hvars : ∀ x ∈ (Fo.cons h k .nil).flat, x.1.op = op → x.1.n = n → x.2 = .nil := fun x hx ho _ => fits_var (HFT.out x hx) (by rw [ho, HOP.out]; rfl)
    have hpt0 : PT PendN w4 (.cons h k .nil) w1.heap.size 0 [] [] F1 := by
      have ho := HM4.out.o
      refine ⟨[], [], [], [], F1, [], rfl, rfl, by simp, ⟨rfl, rfl, rfl⟩, .inr ⟨q1, c1, ⟨?_, ?_, ?_, ?_, hl1, hm1⟩, ?_⟩⟩
      · simp [World.cell?, ho]
      · simp [World.cell?, ho]
      · simp [World.cell?, ho]
      · simp [World.cell?, ho]
      · rcases HM4.out.own with ⟨x1, x2⟩ | ⟨b', F', x1, x2, x3, x4⟩
        · exact .inl ⟨x1, rfl, rfl, x2⟩
        · exact .inr ⟨b', F', x1, x2, x3, x4⟩
    have hpt1 := (hpt0.sel (op := op) (n := n) H K hvars).keep PendV.loc (w' := W) (fun i _ => cell_same (hB.block _ (HM4.out.big w1.heap.size (by simp)).2) i) (fun c hc => hB.block _ (HM4.out.big c (by simp [hc])).2)
    rw [hall] at hown
    generalize hpl : sel op n (allF w4 (.cons h k .nil) w1.heap.size 0) = pl at hown hpt1
    have hz4 : w4.heap.size ≤ W.heap.size := hB.size
    have hK2 : w4.heap.size + 3 ≤ K' := by simpa using hK
    have hbig : ∀ c ∈ w1.heap.size :: F1, w.heap.size + 4 ≤ c ∧ c < w4.heap.size := HM4.out.big
    have hst : PutI W w1.heap.size F1 (Fo.putF op n H K (.cons h k .nil)) H K pl 0 W :=
      ⟨⟨F1, by simpa using hpt1, HM4.out.nd, fun c hc => ⟨.inl hc, by have := (hbig c (by simp [hc])).2; omega⟩⟩, ⟨_, hM.o⟩, fun _ _ _ _ => rfl, Below.refl _ _⟩
    obtain ⟨a, cp, rfl⟩ := own_value hown
    have hLs : pl.length ≤ 1099511627776 := by
      have h1 := length_sel op n (allF w4 (.cons h k .nil) w1.heap.size 0)
      have h2 : (allL w4 [(w1.heap.size, 0)] [(h, k)]).length = (flatL [(h, k)]).length := by rw [← allL_snd w4 (st := [(w1.heap.size, 0)]) (ts := [(h, k)]) rfl, List.length_map]
      have h3 := HSZ.out
      rw [hpl, ← hall, h2] at h1
      omega
    have hpc := hbp.cell
    have HST := Lib.hid hst
    have HOWN := Lib.hid hown
    have HMW := Lib.hid hM
    have HKD := Lib.hid hKd
    have HBG := Lib.hid hbig
    have HBB := Lib.hid hB
    have hKlt := (Array.getElem?_eq_some_iff.1 hKd).1
    clear hst hown hM hKd hbig hB hbp hbo hvD hall hvars hpt0 hpt1 hpl
    generalize hL : pl.length = L at *
    have HL := Lib.hid hL
    clear hL
    gi_wp2
    gi_loopw [50] (fun i wx => ∃ j : Nat, j ≤ L ∧ i = .int .i64 j ∧ PutI W w1.heap.size F1 (Fo.putF op n H K (.cons h k .nil)) H K pl j wx) (fun i _ => L - (intOf i).toNat)
    case atStart => exact ⟨0, Nat.zero_le _, rfl, HST.out⟩
    case round =>
      obtain ⟨j, hj, rfl, hI⟩ := hrel
      have HI := Lib.hid hI
      have hold := hI.old (N := w.heap.size + 4) (fun c hc => (HBG.out c hc).1) (by omega)
      have hbel : Below w.heap.size w wr := HMW.out.b.below.trans (hold.mono (by omega))
      have HBW := Lib.hid hbel
      have hb2 := (hold.block (w.heap.size + 1 + 1) (by omega)).trans HMW.out.b.b2
      obtain ⟨d0, d1, d2, d3, _⟩ := row4 hb2
      have hb3 := (hold.block (w.heap.size + 1 + 1 + 1) (by omega)).trans HMW.out.b.b3
      obtain ⟨y0, y1, y2, y3, z0, z1, z2, z3⟩ := row4 hb3
      clear hold hbel hb2 hb3
      by_cases hjL : j < L
      · have hjp : j < pl.length := by rw [HL.out]; exact hjL
        obtain ⟨g, cap', cur, hv, hgb, hgc, _, _, hcells⟩ := own_some HOWN.out (by omega)
        obtain ⟨rfl, _, rfl⟩ : a = some ⟨g, 0, none⟩ ∧ L = L ∧ cp = cap' := by simpa using hv
        have hpj : pl[j]? = some pl[j] := List.getElem?_eq_getElem hjp
        have hcj := hcells j (Pl.ptr pl[j]) (by simp [hpj])
        have hglt := (Array.getElem?_eq_some_iff.1 hgc).1
        have hgs := HI.out.same g hglt (fun e => by have := (HBG.out g (by simp [e])).2; omega) (fun hc => by have := (HBG.out g (by simp [hc])).2; omega)
        have hcj2 : wr.cell? ⟨g, j, none⟩ = some (.pointer (some ⟨pl[j].1, pl[j].2, none⟩)) := by
          have := (cell_same hgs (0 + j)).trans hcj
          rw [Nat.zero_add] at this
          exact this
        obtain ⟨⟨h0, q0, l0, p0, hh0⟩, hrb, hloc, hgo⟩ := HI.out.here hpj
        have e0 := hh0.c0
        have e1 := hh0.c1
        have e2 := hh0.c2
        have e3 := hh0.c3
        have hplt := hh0.lt
        have HRB := Lib.hid hrb
        have HGO := Lib.hid hgo
        clear hgo hrb hh0 hgs hcj hpj hcells hloc hv
        generalize pl[j] = p at *
        gi_wp2_with fail
        refine ⟨trivial, ?_⟩
        refine (callsIn_wide.2 (HC2.out _ HBW.out)).mono ?_
        rintro e w6 ⟨q', cap6, F', rfl, hl6, hm6, hown6, hnd6, hF6, hb6⟩
        have f0 := (hb6.cell (p := ⟨p.1, p.2, none⟩) hplt).trans e0
        have f1 := (hb6.cell (p := ⟨p.1, p.2 + 1, none⟩) hplt).trans e1
        have f2 := (hb6.cell (p := ⟨p.1, p.2 + 2, none⟩) hplt).trans e2
        have f3 := (hb6.cell (p := ⟨p.1, p.2 + 3, none⟩) hplt).trans e3
        have hr6 := HRB.out.same (hb6.block _ hplt)
        have r0 := hr6.frozen p.2
        have r1 := hr6.frozen (p.2 + 1)
        have r2 := hr6.frozen (p.2 + 2)
        have r3 := hr6.frozen (p.2 + 3)
        have HN := Lib.hid (HGO.out w6 q' cap6 F' hb6 hown6 hnd6 hF6 hl6 hm6 (by have := (HBG.out w1.heap.size (by simp)).2; omega))
        clear hb6 hown6 hnd6 hF6 hr6
        gi_wp2
        go_roundw
        case rel => exact ⟨j + 1, by omega, by go_num, HN.out⟩
        case measure => simp [intOf]; omega
      · have hje : j = L := by omega
        have hI2 := HI.out
        rw [hje] at hI2
        have hfo := hI2.fin2 HL.out (W' := wr) (fun _ _ _ => rfl)
        rw [put_one] at hfo
        obtain ⟨q', cap', hh', _⟩ := fo_one hfo
        have g0 := hh'.c0
        have g1 := hh'.c1
        have g2 := hh'.c2
        have g3 := hh'.c3
        simp only [Nat.zero_add] at g0 g1 g2 g3
        have hl' := hh'.lc
        have hm' := hh'.cm
        have HI2 := Lib.hid hI2
        have HH := Lib.hid hh'
        have hKr : wr.heap[K']? = some (.deferred (some [])) := (hI2.same K' hKlt (fun e => by have := (HBG.out K' (by simp [e])).2; omega) (fun hc => by have := (HBG.out K' (by simp [hc])).2; omega)).trans HKD.out
        have hb3 := ((hI2.old (N := w.heap.size + 4) (fun c hc => (HBG.out c hc).1) (by omega)).block (w.heap.size + 1 + 1 + 1) (by omega)).trans HMW.out.b.b3
        have HKR := Lib.hid hKr
        have HB3 := Lib.hid hb3
        have hws : W.heap.size ≤ wr.heap.size := hI2.low.size
        clear hje hI2 hfo hh' hKr hb3
        have hw4 : w.heap.size + 4 ≤ w4.heap.size := HM4.out.b.room
        gi_wp2
        generalize hT : putT op n H K h k = T at *
        have hg := set4_grown wr (w.heap.size + 1 + 1 + 1) (.int .u8 T.1.op) (.string T.1.name) (.int .i64 T.1.n) (.slice q' T.2.len cap')
        have hrow := set4_row HB3.out (.int .u8 T.1.op) (.string T.1.name) (.int .i64 T.1.n) (.slice q' T.2.len cap')
        have hKd' := (hg.block K' (Array.getElem?_eq_some_iff.1 HKR.out).1 (by intro e; have := Option.some.inj e; omega)).trans HKR.out
        refine ⟨by simp, .inl ⟨_, _, rfl, run_takeDeferred hKd', ?_⟩⟩
        have hg2 := grownBy_putObj' (World.set4 wr (w.heap.size + 1 + 1 + 1) (.int .u8 T.1.op) (.string T.1.name) (.int .i64 T.1.n) (.slice q' T.2.len cap')) K' (.deferred none)
        have hrow2 := (hg2.block _ (Array.getElem?_eq_some_iff.1 hrow).1 (by intro e; have := Option.some.inj e; omega)).trans hrow
        refine ⟨_, results_cell_row rfl _ _ _ _ _ _ (.struct _) rfl hrow2 Try.underlying25 rfl (by kernel_rfl), ?_⟩
        have hfo2 := HI2.out.fin2 (W' := (World.set4 wr (w.heap.size + 1 + 1 + 1) (.int .u8 T.1.op) (.string T.1.name) (.int .i64 T.1.n) (.slice q' T.2.len cap')).putObj K' (.deferred none)) HL.out (fun b hb hlt => by
          have hne1 : b ≠ w.heap.size + 1 + 1 + 1 := fun e => by
            rcases hb with h1 | h1 | h1
            · have := (HBG.out b (by simp [h1])).1; omega
            · have := (HBG.out b (by simp [h1])).1; omega
            · omega
          have hne2 : b ≠ K' := fun e => by
            rcases hb with h1 | h1 | h1
            · have := (HBG.out b (by simp [h1])).2; omega
            · have := (HBG.out b (by simp [h1])).2; omega
            · omega
          exact (hg2.block b (Nat.lt_of_lt_of_le hlt hg.size) (fun e => hne2 (Option.some.inj e))).trans (hg.block b hlt (fun e => hne1 (Option.some.inj e))))
        rw [put_one, hT] at hfo2
        obtain ⟨q2, cap2, hh2, hs2⟩ := fo_one hfo2
        have hB0 : ((World.set4 wr (w.heap.size + 1 + 1 + 1) (.int .u8 T.1.op) (.string T.1.name) (.int .i64 T.1.n) (.slice q' T.2.len cap')).putObj K' (.deferred none)).heap[w1.heap.size]? = wr.heap[w1.heap.size]? := by
          have hb := HBG.out w1.heap.size (by simp)
          have hl := HH.out.lt
          exact (hg2.block _ (Nat.lt_of_lt_of_le hl hg.size) (fun e => by have := Option.some.inj e; omega)).trans (hg.block _ hl (fun e => by have := Option.some.inj e; omega))
        have e3 := (cell_same hB0 (0 + 3)).symm.trans hh2.c3
        rw [HH.out.c3] at e3
        obtain ⟨rfl, rfl⟩ : q' = q2 ∧ cap' = cap2 := by simpa using e3
        refine ⟨q', cap', rfl, hs2, ?_⟩
        have hbw := HMW.out.b.below.trans ((HI2.out.old (N := w.heap.size + 4) (fun c hc => (HBG.out c hc).1) (by omega)).mono (by omega))
        exact (hbw.grown hg hbw.size (fun r e => by have := Option.some.inj e; omega)).grown hg2 (Nat.le_trans hbw.size hg.size) (fun r e => by have := Option.some.inj e; omega)
set_option maxRecDepth 100000 in
set_option maxHeartbeats 4000000 in
theorem Put_yes2 (op : Int) (hop : op = 10) (h : Hd) (k : Fo) (q : Option Addr) (cap : Nat) (n : Int) (H : Hd) (K : Fo) (Q : Option Addr) (C : Nat) (w : World) (hh : h.ok) (hs : SlF w q cap k) (hk : k.ok) (hsz : 1 + k.size ≤ 1099511627776)
    (hh' : H.ok) (hs' : SlF w Q C K) (hk' : K.ok) (hsz' : 1 + K.size ≤ 1099511627776) (hr1 : riB h k = true) (hr2 : riB H K = true) (hsort : sortO H.op = 2) :
    Calls Try.prog 28 #[.agg #[.int .u8 h.op, .string h.name, .int .i64 h.n, .slice q k.len cap], .int .i64 n, .agg #[.int .u8 H.op, .string H.name, .int .i64 H.n, .slice Q K.len C]] w (TrPost w (putT op n H K h k).1 (putT op n H K h k).2) := by
  refine (callsIn_wide (n := 9)).1 ?_
  have HC := Lib.hid fun w' (hb : Below w.heap.size w w') => copied_any h k q cap w' hh (hs.below hb) hk hsz
  have HC2 := Lib.hid fun w' (hb : Below w.heap.size w w') => copied_any H K Q C w' hh' (hs'.below hb) hk' hsz'
  have HR1 : Hid (∀ w', Below w.heap.size w w' → Calls Try.prog 54 #[.agg #[.int .u8 h.op, .string h.name, .int .i64 h.n, .slice q k.len cap]] w' fun e w'' => e = .returned (.bool true) ∧ Below w'.heap.size w' w'') :=
    Lib.hid fun w' hb => by rw [← hr1]; exact right_any h k q cap w' hh (hs.below hb) hk hsz
  have HR2 : Hid (∀ w', Below w.heap.size w w' → Calls Try.prog 54 #[.agg #[.int .u8 H.op, .string H.name, .int .i64 H.n, .slice Q K.len C]] w' fun e w'' => e = .returned (.bool true) ∧ Below w'.heap.size w' w'') :=
    Lib.hid fun w' hb => by rw [← hr2]; exact right_any H K Q C w' hh' (hs'.below hb) hk' hsz'
  have HSO : Hid (∀ w', Calls Try.prog 70 #[.int .u8 H.op] w' fun e w'' => e = .returned (.int .u8 2) ∧ w' = w'') := Lib.hid fun w' => by have := ksort_any H.op w' hh'.op0 hh'.op1; rw [hsort] at this; exact this
  have HFT := Lib.hid (riB_fits hr1)
  have HP := Lib.hid parts_any
  have HS := Lib.hid (PutB.start w h k q cap n H K Q C)
  have HHK := Lib.hid (And.intro hh hk)
  have hall := length_one h k
  have HSZ : Hid ((flatL [(h, k)]).length ≤ 1099511627776) := Lib.hid (by rw [hall]; exact hsz)
  clear hs hk hs' hk' hh hh' hsz hsz' hr1 hr2 hsort hall
  refine callsIn_of_wp_marks Try.func28 rfl trivial ?_ rfl
  simp only [Try.ntmps28, List.size_toArray, List.length_cons, List.length_nil, Nat.reduceAdd, Nat.reduceSub, Array.replicate_succ, Array.replicate_zero, List.push_toArray, List.append_toArray, List.nil_append, List.cons_append]
  gi_wp2_with fail
  refine ⟨trivial, ?_⟩
  refine (callsIn_wide.2 (HC.out _ HS.out.below)).mono ?_
  rintro e w1 ⟨q1, c1, F1, rfl, hl1, hm1, hown1, hnd1, hF1, hb1⟩
  have hS1 := HS.out.go hb1
  have hM : PutM w h k q cap n H K Q C op w1.heap.size q1 c1 F1 (w1.alloc (.cells #[.int .u8 h.op, .string h.name, .int .i64 h.n, .slice q1 k.len c1] 25)) := by
    have hB := below_box w1 (.cells #[.int .u8 h.op, .string h.name, .int .i64 h.n, .slice q1 k.len c1] 25)
    refine ⟨hS1.go hB, World.alloc_heap_new w1 _, hown1.keep (fun c hc => hB.block _ (hF1 c hc).2), List.nodup_cons.2 ⟨fun hc => by have := (hF1 _ hc).2; omega, hnd1⟩, fun c hc => ?_, hl1, hm1⟩
    have hro := hS1.room
    rcases List.mem_cons.1 hc with h1 | h1
    · subst h1; exact ⟨hro, by simp⟩
    · have := hF1 c h1; simp at this; exact ⟨by omega, by simp; omega⟩
  obtain ⟨a0, a1, a2, a3, _⟩ := row4 hS1.b0
  obtain ⟨d0, d1, d2, d3, _⟩ := row4 hS1.b2
  have hz1 : w.heap.size + 3 < w1.heap.size := hS1.room
  have hz0 : w.heap.size < w1.heap.size := by omega
  have hz2 : w.heap.size + 1 + 1 < w1.heap.size := by omega
  have HM := Lib.hid hM
  clear hS1 hF1 hb1 hM hown1 hnd1
  gi_wp2_with fail
  refine ⟨trivial, ?_⟩
  refine (callsIn_wide.2 (HR1.out _ HM.out.b.below)).mono ?_
  rintro e w3 ⟨rfl, hb3⟩
  have hM3 := HM.out.go hb3
  obtain ⟨a0, a1, a2, a3, _⟩ := row4 hM3.b.b0
  obtain ⟨d0, d1, d2, d3, _⟩ := row4 hM3.b.b2
  have HM3 := Lib.hid hM3
  clear hM3 hb3
  gi_wp2_with fail
  refine ⟨trivial, ?_⟩
  refine (callsIn_wide.2 (HR2.out _ HM3.out.b.below)).mono ?_
  rintro e w4 ⟨rfl, hb4⟩
  have hM4 := HM3.out.go hb4
  obtain ⟨a0, a1, a2, a3, _⟩ := row4 hM4.b.b0
  obtain ⟨d0, d1, d2, d3, _⟩ := row4 hM4.b.b2
  have hn1 := hM4.b.b1.cell
  have hro : w.heap.size + 3 < w4.heap.size := hM4.b.room
  have hz0 : w.heap.size < w4.heap.size := by omega
  have hz01 : w.heap.size + 1 < w4.heap.size := by omega
  have hz2 : w.heap.size + 1 + 1 < w4.heap.size := by omega
  have hzo := (hM4.big w1.heap.size (by simp)).2
  have HM4 := Lib.hid hM4
  clear hM4 hb4
  have HOP := Lib.hid hop
  clear hop
  gi_wp2_with (first | (refine ⟨trivial, ?_⟩; gi_at_call 70; refine (callsIn_wide.2 (HSO.out _)).mono ?_; rintro e w' ⟨rfl, rfl⟩) | (refine ⟨trivial, ?_⟩; gi_at_call 57; refine (callsIn_wide.2 (HP.out _ _)).mono ?_; rintro e w' ⟨rfl, rfl⟩))
  rw [← HOP.out]
  refine range_place rfl (by omega) (Bn := w4.heap.size + 1 + 1) rfl trivial (w1.heap.size, 0) ?c1 rfl w4 ?c2 (h, k) ?c3 ?c4 HSZ.out
    (fun pre D W => PlA op n w4.heap.size (w4.heap.size + 1) (w4.heap.size + 3) pre D W) ?hA ?c5 ?a1 ?assign ?body ?done
  case assign =>
    intro l p W K hK
    gi_wp2
    exact hK
  case c1 => exact Boxed.cell (by have := Boxed.new ((w4.alloc (.cells #[.int .u8 op] 22)).alloc (.cells #[.slice none 0 0] 69)) 64 (.pointer (some ⟨w1.heap.size, 0, none⟩)); simpa only [World.size_alloc] using this)
  case c2 => exact ((below_box w4 _).alloc (by simp) _).alloc (by simp; omega) _
  case c3 =>
    have ho := HM4.out.o
    refine ⟨⟨q1, c1, ⟨?_, ?_, ?_, ?_, hl1, hm1⟩, HM4.out.own.slF hl1 hm1⟩, trivial⟩ <;> simp [World.cell?, ho]
  case c4 => intro t ht; simp at ht; subst ht; exact HHK.out
  case hA => exact fun pre D X Y row hx hg hr => hx.kept hg (fun r e => by have := hr r e; simpa using this) (by omega) (by omega)
  case c5 =>
    have b1 := Boxed.new w4 22 (.int .u8 op)
    have b2 := Boxed.new (w4.alloc (.cells #[.int .u8 op] 22)) 69 (.slice none 0 0)
    rw [World.size_alloc] at b2
    exact ⟨_, b2.alloc _, World.ownsRow_nil _ _ _ _, (b1.alloc _).alloc _, fun g hg => by cases hg⟩
  case body =>
    rintro l pre x rest p D W he hB ⟨q2, cap2, hhd, hsl⟩ hlt hx1 hx2 hW hD hpa
    obtain ⟨v, hbp, hown, hbo, hvD⟩ := hpa
    obtain ⟨⟨xo, xn, xm⟩, xk⟩ := x
    have c0 := hhd.c0
    have c2 := hhd.c2
    have hn1 := (HM4.out.go hB).b.b1.cell
    have hpc := hbp.cell
    have hpf := hbp.frozen
    have hoc := hbo.cell
    have hrn := hx1.n0
    have hrn2 := hx1.n1
    have HX1 := Lib.hid hx1
    have HE := Lib.hid he
    have HPA : Hid (PlA op n w4.heap.size (w4.heap.size + 1) (w4.heap.size + 3) pre D W) := Lib.hid ⟨v, hbp, hown, hbo, hvD⟩
    have HO := Lib.hid hown
    have HVD := Lib.hid hvD
    have HBP := Lib.hid hbp
    have HBO := Lib.hid hbo
    clear he hbp hown hbo hvD hx1 hx2
    simp only at c0 c2
    have hno : ¬ (xo = op ∧ xm = n) → ∀ nq, ∃ D', Tch (w4.heap.size + 3) D D' W (W.drewN nq) ∧ Below w4.heap.size W (W.drewN nq) ∧ PlA op n w4.heap.size (w4.heap.size + 1) (w4.heap.size + 3) (pre ++ [(p, ((⟨xo, xn, xm⟩ : Hd), xk))]) D' (W.drewN nq) := fun hc nq => by
      have hg := grown_below (below_drewN (Below.refl W.heap.size W) nq)
      have hp2 := HPA.out.kept hg (fun r e => by cases e) (by omega) (by omega)
      refine ⟨D, Tch.grown hg (fun r e => by cases e), below_drewN (Below.refl _ _) nq, ?_⟩
      unfold PlA at hp2 ⊢
      rw [sel_append, sel_no hc, show sel op n [] = [] from rfl, List.append_nil]
      exact hp2
    have HNO := Lib.hid hno
    clear hno
    by_cases h1 : xo = op
    · subst h1
      by_cases h2 : xm = n
      · subst h2
        obtain ⟨i0, hi, hz0, hz1, hz2⟩ := info_parts info56
        obtain ⟨a, cp, rfl⟩ := own_value HO.out
        have hlen : (sel xo xm pre).length ≤ 1099511627776 := by
          have h1 := length_sel xo xm pre
          have h2 : (allL w4 [(w1.heap.size, 0)] [(h, k)]).length = (flatL [(h, k)]).length := by rw [← allL_snd w4 (st := [(w1.heap.size, 0)]) (ts := [(h, k)]) rfl, List.length_map]
          have h3 := HSZ.out
          rw [← h2, HE.out] at h3
          simp at h3; omega
        have hvd : ∀ g, (Value.slice a (sel xo xm pre).length cp).ownBlock = some g → D g ∧ w4.heap.size + 3 ≤ g := fun g hg => ⟨HVD.out g hg, (HO.out.lt g hg).1⟩
        have HVD2 := Lib.hid hvd
        have hW2 : w4.heap.size + 3 ≤ W.heap.size := by simpa using hW
        have hDW : ∀ b, D b → b < W.heap.size := hD
        have HD := Lib.hid hDW
        have hbo2 := HBO.out
        generalize hLd : (sel xo xm pre).length = L at *
        have HL := Lib.hid hLd
        clear hLd hvd hDW hD hbo2
        gi_wp2
        refine region_quiet_round rfl (by kernel_rfl) (by kernel_rfl) (noDefer_spec (by kernel_rfl)) ?_
        repeat (quiet_step_in (fail))
        refine wpQuietIn_nil ?_
        intro _ hw'
        obtain ⟨nq, hw''⟩ := hw'
        subst hw''
        have hown1 := own_grown HO.out (below_drewN (Below.refl W.heap.size W) nq)
        have hdz : (W.drewN nq).heap.size = W.heap.size := by simp
        have hk1 := cell_one_new (W.drewN nq) (.pointer (some ⟨p.1, p.2, none⟩)) 64
        rw [hdz] at hk1
        have HK1 := Lib.hid hk1
        have HDZ := Lib.hid hdz
        clear hk1
        clear hdz
        gi_wp2_with (gi_at_builtin; (refine wpListIn_append_own_at _ rfl (.tmp 44) (.tmp 46) 69 rfl (w4.heap.size + 3) 64 i0 (.pointer none) 1 8 Try.underlying69 hi hz0 hz1 hz2 rfl (by decide) _ _ _ rfl (hown1.alloc _) ⟨W.heap.size, 0, none⟩ 1 1 [.pointer (some ⟨p.1, p.2, none⟩)] rfl rfl HK1.out (by simp [Value.oneCell']) (by unfold maxLen; omega) (by omega) (by rw [World.size_alloc, HDZ.out]; omega) ?_); intro v' w5 hown2 hgrow _ hat; obtain ⟨a5, cp5, rfl⟩ := own_value hown2; go_loud (obtain ⟨hb5, hfin5⟩ := PlA.snoc (B := w4.heap.size) (xn := xn) (xk := xk) HL.out HBP.out HBO.out HVD2.out HD.out (by omega) (by omega) (by omega) (by omega) hW2 hown2 hgrow hat); have hc5 := hb5.cell; have hf5 := hb5.frozen; have HF5 := Lib.hid hfin5; clear hown2 hgrow hat hfin5)
        gi_wp2
        (show ∃ D', _); simp only [World.size_alloc]; exact HF5.out
      · have h2' : (xm == n) = false := by simpa using h2
        have HQ := Lib.hid (HNO.out (fun hc => h2 hc.2))
        clear h2
        gi_wp2
        refine region_quiet_round rfl (by kernel_rfl) (by kernel_rfl) (noDefer_spec (by kernel_rfl)) ?_
        repeat (quiet_step_in (fail))
        refine wpQuietIn_nil ?_
        intro _ hw'
        obtain ⟨nq, hw''⟩ := hw'
        subst hw''
        gi_wp2
        (show ∃ D', _); simp only [World.size_alloc]; exact HQ.out nq
    · have h1' : (xo == op) = false := by simpa using h1
      have HQ := Lib.hid (HNO.out (fun hc => h1 hc.1))
      clear h1
      gi_wp2
      refine region_quiet_round rfl (by kernel_rfl) (by kernel_rfl) (noDefer_spec (by kernel_rfl)) ?_
      repeat (quiet_step_in (fail))
      refine wpQuietIn_nil ?_
      intro _ hw'
      obtain ⟨nq, hw''⟩ := hw'
      subst hw''
      gi_wp2
      (show ∃ D', _); simp only [World.size_alloc]; exact HQ.out nq
  case done =>
    rintro K' D W hK hDK hB ⟨v, hbp, hown, hbo, hvD⟩ hKd
    have hM := HM4.out.go hB
    have hall : allL w4 [(w1.heap.size, 0)] [(h, k)] = allF w4 (.cons h k .nil) w1.heap.size 0 := by simp [allL, allF]
    have hvars : ∀ x ∈ (Fo.cons h k .nil).flat, x.1.op = op → x.1.n = n → x.2 = .nil := fun x hx ho _ => fits_var (HFT.out x hx) (by rw [ho, HOP.out]; rfl)
    have hpt0 : PT PendN w4 (.cons h k .nil) w1.heap.size 0 [] [] F1 := by
      have ho := HM4.out.o
      refine ⟨[], [], [], [], F1, [], rfl, rfl, by simp, ⟨rfl, rfl, rfl⟩, .inr ⟨q1, c1, ⟨?_, ?_, ?_, ?_, hl1, hm1⟩, ?_⟩⟩
      · simp [World.cell?, ho]
      · simp [World.cell?, ho]
      · simp [World.cell?, ho]
      · simp [World.cell?, ho]
      · rcases HM4.out.own with ⟨x1, x2⟩ | ⟨b', F', x1, x2, x3, x4⟩
        · exact .inl ⟨x1, rfl, rfl, x2⟩
        · exact .inr ⟨b', F', x1, x2, x3, x4⟩
    have hpt1 := (hpt0.sel (op := op) (n := n) H K hvars).keep PendV.loc (w' := W) (fun i _ => cell_same (hB.block _ (HM4.out.big w1.heap.size (by simp)).2) i) (fun c hc => hB.block _ (HM4.out.big c (by simp [hc])).2)
    rw [hall] at hown
    generalize hpl : sel op n (allF w4 (.cons h k .nil) w1.heap.size 0) = pl at hown hpt1
    have hz4 : w4.heap.size ≤ W.heap.size := hB.size
    have hK2 : w4.heap.size + 3 ≤ K' := by simpa using hK
    have hbig : ∀ c ∈ w1.heap.size :: F1, w.heap.size + 4 ≤ c ∧ c < w4.heap.size := HM4.out.big
    have hst : PutI W w1.heap.size F1 (Fo.putF op n H K (.cons h k .nil)) H K pl 0 W :=
      ⟨⟨F1, by simpa using hpt1, HM4.out.nd, fun c hc => ⟨.inl hc, by have := (hbig c (by simp [hc])).2; omega⟩⟩, ⟨_, hM.o⟩, fun _ _ _ _ => rfl, Below.refl _ _⟩
    obtain ⟨a, cp, rfl⟩ := own_value hown
    have hLs : pl.length ≤ 1099511627776 := by
      have h1 := length_sel op n (allF w4 (.cons h k .nil) w1.heap.size 0)
      have h2 : (allL w4 [(w1.heap.size, 0)] [(h, k)]).length = (flatL [(h, k)]).length := by rw [← allL_snd w4 (st := [(w1.heap.size, 0)]) (ts := [(h, k)]) rfl, List.length_map]
      have h3 := HSZ.out
      rw [hpl, ← hall, h2] at h1
      omega
    have hpc := hbp.cell
    have HST := Lib.hid hst
    have HOWN := Lib.hid hown
    have HMW := Lib.hid hM
    have HKD := Lib.hid hKd
    have HBG := Lib.hid hbig
    have HBB := Lib.hid hB
    have hKlt := (Array.getElem?_eq_some_iff.1 hKd).1
    clear hst hown hM hKd hbig hB hbp hbo hvD hall hvars hpt0 hpt1 hpl
    generalize hL : pl.length = L at *
    have HL := Lib.hid hL
    clear hL
    gi_wp2
    gi_loopw [50] (fun i wx => ∃ j : Nat, j ≤ L ∧ i = .int .i64 j ∧ PutI W w1.heap.size F1 (Fo.putF op n H K (.cons h k .nil)) H K pl j wx) (fun i _ => L - (intOf i).toNat)
    case atStart => exact ⟨0, Nat.zero_le _, rfl, HST.out⟩
    case round =>
      obtain ⟨j, hj, rfl, hI⟩ := hrel
      have HI := Lib.hid hI
      have hold := hI.old (N := w.heap.size + 4) (fun c hc => (HBG.out c hc).1) (by omega)
      have hbel : Below w.heap.size w wr := HMW.out.b.below.trans (hold.mono (by omega))
      have HBW := Lib.hid hbel
      have hb2 := (hold.block (w.heap.size + 1 + 1) (by omega)).trans HMW.out.b.b2
      obtain ⟨d0, d1, d2, d3, _⟩ := row4 hb2
      have hb3 := (hold.block (w.heap.size + 1 + 1 + 1) (by omega)).trans HMW.out.b.b3
      obtain ⟨y0, y1, y2, y3, z0, z1, z2, z3⟩ := row4 hb3
      clear hold hbel hb2 hb3
      by_cases hjL : j < L
      · have hjp : j < pl.length := by rw [HL.out]; exact hjL
        obtain ⟨g, cap', cur, hv, hgb, hgc, _, _, hcells⟩ := own_some HOWN.out (by omega)
        obtain ⟨rfl, _, rfl⟩ : a = some ⟨g, 0, none⟩ ∧ L = L ∧ cp = cap' := by simpa using hv
        have hpj : pl[j]? = some pl[j] := List.getElem?_eq_getElem hjp
        have hcj := hcells j (Pl.ptr pl[j]) (by simp [hpj])
        have hglt := (Array.getElem?_eq_some_iff.1 hgc).1
        have hgs := HI.out.same g hglt (fun e => by have := (HBG.out g (by simp [e])).2; omega) (fun hc => by have := (HBG.out g (by simp [hc])).2; omega)
        have hcj2 : wr.cell? ⟨g, j, none⟩ = some (.pointer (some ⟨pl[j].1, pl[j].2, none⟩)) := by
          have := (cell_same hgs (0 + j)).trans hcj
          rw [Nat.zero_add] at this
          exact this
        obtain ⟨⟨h0, q0, l0, p0, hh0⟩, hrb, hloc, hgo⟩ := HI.out.here hpj
        have e0 := hh0.c0
        have e1 := hh0.c1
        have e2 := hh0.c2
        have e3 := hh0.c3
        have hplt := hh0.lt
        have HRB := Lib.hid hrb
        have HGO := Lib.hid hgo
        clear hgo hrb hh0 hgs hcj hpj hcells hloc hv
        generalize pl[j] = p at *
        gi_wp2_with fail
        refine ⟨trivial, ?_⟩
        refine (callsIn_wide.2 (HC2.out _ HBW.out)).mono ?_
        rintro e w6 ⟨q', cap6, F', rfl, hl6, hm6, hown6, hnd6, hF6, hb6⟩
        have f0 := (hb6.cell (p := ⟨p.1, p.2, none⟩) hplt).trans e0
        have f1 := (hb6.cell (p := ⟨p.1, p.2 + 1, none⟩) hplt).trans e1
        have f2 := (hb6.cell (p := ⟨p.1, p.2 + 2, none⟩) hplt).trans e2
        have f3 := (hb6.cell (p := ⟨p.1, p.2 + 3, none⟩) hplt).trans e3
        have hr6 := HRB.out.same (hb6.block _ hplt)
        have r0 := hr6.frozen p.2
        have r1 := hr6.frozen (p.2 + 1)
        have r2 := hr6.frozen (p.2 + 2)
        have r3 := hr6.frozen (p.2 + 3)
        have HN := Lib.hid (HGO.out w6 q' cap6 F' hb6 hown6 hnd6 hF6 hl6 hm6 (by have := (HBG.out w1.heap.size (by simp)).2; omega))
        clear hb6 hown6 hnd6 hF6 hr6
        gi_wp2
        go_roundw
        case rel => exact ⟨j + 1, by omega, by go_num, HN.out⟩
        case measure => simp [intOf]; omega
      · have hje : j = L := by omega
        have hI2 := HI.out
        rw [hje] at hI2
        have hfo := hI2.fin2 HL.out (W' := wr) (fun _ _ _ => rfl)
        rw [put_one] at hfo
        obtain ⟨q', cap', hh', _⟩ := fo_one hfo
        have g0 := hh'.c0
        have g1 := hh'.c1
        have g2 := hh'.c2
        have g3 := hh'.c3
        simp only [Nat.zero_add] at g0 g1 g2 g3
        have hl' := hh'.lc
        have hm' := hh'.cm
        have HI2 := Lib.hid hI2
        have HH := Lib.hid hh'
        have hKr : wr.heap[K']? = some (.deferred (some [])) := (hI2.same K' hKlt (fun e => by have := (HBG.out K' (by simp [e])).2; omega) (fun hc => by have := (HBG.out K' (by simp [hc])).2; omega)).trans HKD.out
        have hb3 := ((hI2.old (N := w.heap.size + 4) (fun c hc => (HBG.out c hc).1) (by omega)).block (w.heap.size + 1 + 1 + 1) (by omega)).trans HMW.out.b.b3
        have HKR := Lib.hid hKr
        have HB3 := Lib.hid hb3
        have hws : W.heap.size ≤ wr.heap.size := hI2.low.size
        clear hje hI2 hfo hh' hKr hb3
        have hw4 : w.heap.size + 4 ≤ w4.heap.size := HM4.out.b.room
        gi_wp2
        generalize hT : putT op n H K h k = T at *
        have hg := set4_grown wr (w.heap.size + 1 + 1 + 1) (.int .u8 T.1.op) (.string T.1.name) (.int .i64 T.1.n) (.slice q' T.2.len cap')
        have hrow := set4_row HB3.out (.int .u8 T.1.op) (.string T.1.name) (.int .i64 T.1.n) (.slice q' T.2.len cap')
        have hKd' := (hg.block K' (Array.getElem?_eq_some_iff.1 HKR.out).1 (by intro e; have := Option.some.inj e; omega)).trans HKR.out
        refine ⟨by simp, .inl ⟨_, _, rfl, run_takeDeferred hKd', ?_⟩⟩
        have hg2 := grownBy_putObj' (World.set4 wr (w.heap.size + 1 + 1 + 1) (.int .u8 T.1.op) (.string T.1.name) (.int .i64 T.1.n) (.slice q' T.2.len cap')) K' (.deferred none)
        have hrow2 := (hg2.block _ (Array.getElem?_eq_some_iff.1 hrow).1 (by intro e; have := Option.some.inj e; omega)).trans hrow
        refine ⟨_, results_cell_row rfl _ _ _ _ _ _ (.struct _) rfl hrow2 Try.underlying25 rfl (by kernel_rfl), ?_⟩
        have hfo2 := HI2.out.fin2 (W' := (World.set4 wr (w.heap.size + 1 + 1 + 1) (.int .u8 T.1.op) (.string T.1.name) (.int .i64 T.1.n) (.slice q' T.2.len cap')).putObj K' (.deferred none)) HL.out (fun b hb hlt => by
          have hne1 : b ≠ w.heap.size + 1 + 1 + 1 := fun e => by
            rcases hb with h1 | h1 | h1
            · have := (HBG.out b (by simp [h1])).1; omega
            · have := (HBG.out b (by simp [h1])).1; omega
            · omega
          have hne2 : b ≠ K' := fun e => by
            rcases hb with h1 | h1 | h1
            · have := (HBG.out b (by simp [h1])).2; omega
            · have := (HBG.out b (by simp [h1])).2; omega
            · omega
          exact (hg2.block b (Nat.lt_of_lt_of_le hlt hg.size) (fun e => hne2 (Option.some.inj e))).trans (hg.block b hlt (fun e => hne1 (Option.some.inj e))))
        rw [put_one, hT] at hfo2
        obtain ⟨q2, cap2, hh2, hs2⟩ := fo_one hfo2
        have hB0 : ((World.set4 wr (w.heap.size + 1 + 1 + 1) (.int .u8 T.1.op) (.string T.1.name) (.int .i64 T.1.n) (.slice q' T.2.len cap')).putObj K' (.deferred none)).heap[w1.heap.size]? = wr.heap[w1.heap.size]? := by
          have hb := HBG.out w1.heap.size (by simp)
          have hl := HH.out.lt
          exact (hg2.block _ (Nat.lt_of_lt_of_le hl hg.size) (fun e => by have := Option.some.inj e; omega)).trans (hg.block _ hl (fun e => by have := Option.some.inj e; omega))
        have e3 := (cell_same hB0 (0 + 3)).symm.trans hh2.c3
        rw [HH.out.c3] at e3
        obtain ⟨rfl, rfl⟩ : q' = q2 ∧ cap' = cap2 := by simpa using e3
        refine ⟨q', cap', rfl, hs2, ?_⟩
        have hbw := HMW.out.b.below.trans ((HI2.out.old (N := w.heap.size + 4) (fun c hc => (HBG.out c hc).1) (by omega)).mono (by omega))
        exact (hbw.grown hg hbw.size (fun r e => by have := Option.some.inj e; omega)).grown hg2 (Nat.le_trans hbw.size hg.size) (fun r e => by have := Option.some.inj e; omega)
end Go.Proofs.Ytmjijmkdeblefaa
