/- tree.Node. -/
import Derived.Test.YtcjhgefkbnbmnaaPTmL
namespace Go.Proofs.Ytcjhgefkbnbmnaa
open Go.RowKit Go.Shelf LM
set_option linter.unusedVariables false
attribute [local go_sem] Oper.semAt_some

theorem flat_bulk : ∀ {f : TF} {t : TH × TF}, t ∈ f.flat → 1 + t.1.ak.size + t.2.bulk ≤ f.bulk
  | .nil, t, h => by cases h
  | .cons h k r, t, ht => by
    simp only [TF.bulk]
    rcases List.mem_cons.1 ht with rfl | ht
    · simp only; omega
    · rcases List.mem_append.1 ht with ht | ht
      · have := flat_bulk ht; omega
      · have := flat_bulk ht; omega
theorem lflatL_bulk {h : TH} {f : TF} {x : LT} (hx : x ∈ lflatL [(1, h, f)]) : 1 + x.2.1.ak.size + x.2.2.bulk ≤ 1 + h.ak.size + f.bulk := by
  rw [lflatL_one] at hx
  have h1 := map_lflat (TF.cons h f .nil) 1
  have h2 : x.2 ∈ (TF.cons h f .nil).flat := by rw [← h1]; exact List.mem_map_of_mem hx
  have := flat_bulk h2
  simpa [TF.bulk] using this

/-- A term of the call's own lies in a box. -/
structure TBox (W : World) (B : Nat) (n0 : Nat) (t : TH × TF) (qa : Option Addr) (ca : Nat) (q : Option Addr) (cap : Nat) (Fa F : List Nat) : Prop where
  box : W.heap[B]? = some (.cells (tmV t.1 qa ca q t.2.len cap) 43 (0, 0))
  lc : t.2.len ≤ cap
  cm : cap ≤ maxLen
  oa : OwnF W qa t.1.ak Fa ∧ t.1.ak.len ≤ ca ∧ ca ≤ maxLen
  ow : TOwn W q t.2 F
  nd : (Fa ++ F).Nodup
  lies : ∀ c ∈ Fa ++ F, n0 ≤ c ∧ c < W.heap.size

/-- What Node answers. -/
def NodePost (w : World) (l : List (TH × TF)) (n : Int) (e : Ending) (w' : World) : Prop :=
  Below w.heap.size w w' ∧
  ((∃ (i : Nat) (t : TH × TF), n = i ∧ l[i]? = some t ∧ ∃ qa ca q cap Fa F, e = .returned (.tuple #[.agg (tmV t.1 qa ca q t.2.len cap), .bool true]) ∧ t.2.len ≤ cap ∧ cap ≤ maxLen ∧ (OwnF w' qa t.1.ak Fa ∧ t.1.ak.len ≤ ca ∧ ca ≤ maxLen) ∧ TOwn w' q t.2 F ∧ (Fa ++ F).Nodup ∧ (∀ c ∈ Fa ++ F, w.heap.size ≤ c ∧ c < w'.heap.size)) ∨
   ((∀ i : Nat, n = i → l.length ≤ i) ∧ e = .returned (.tuple #[.agg zT10, .bool false])))

/-- What Node keeps while it looks for the number. -/
structure NdI (w : World) (n : Int) (j : Nat) (W : World) : Prop where
  no : ∀ i : Nat, n = i → j ≤ i
  num : Boxed W (w.heap.size + 1 + 1 + 1 + 1) 3 (.int .i64 j)
  nb : Boxed W (w.heap.size + 1) 3 (.int .i64 n)
  res : W.heap[w.heap.size + 1 + 1]? = some (.cells zT10 43 (0, 0))
  ok : Boxed W (w.heap.size + 1 + 1 + 1) 4 (.bool false)
theorem NdI.kept {w : World} {n : Int} {j : Nat} {X Y : World} {row : Option Nat} (h : NdI w n j X) (hg : X.grownBy Y row) (hr : ∀ r, row = some r → w.heap.size + 1 + 1 + 1 + 1 + 1 ≤ r) : NdI w n j Y := by
  have hl := (Array.getElem?_eq_some_iff.1 h.res).1
  exact ⟨h.no, h.num.kept hg (fun e => by have := hr _ e.symm; omega), h.nb.kept hg (fun e => by have := hr _ e.symm; omega), (hg.block _ hl (fun e => by have := hr _ e.symm; omega)).trans h.res, h.ok.kept hg (fun e => by have := hr _ e.symm; omega)⟩

/-- What stands when the number has been found. -/
def NdX (w : World) (n0 : Nat) (l : List (TH × TF)) (n : Int) (D : Nat → Prop) (W : World) : Prop :=
  ∃ (i : Nat) (t : TH × TF), n = i ∧ l[i]? = some t ∧ ∃ qa ca q cap Fa F, TBox W (w.heap.size + 1 + 1) n0 t qa ca q cap Fa F ∧ Boxed W (w.heap.size + 1 + 1 + 1) 4 (.bool true) ∧ ∀ c ∈ Fa ++ F, D c
theorem NdX.kept {w : World} {n0 : Nat} {l : List (TH × TF)} {n : Int} {D : Nat → Prop} {X Y : World} {row : Option Nat} (h : NdX w n0 l n D X) (hg : X.grownBy Y row) (hr : ∀ r, row = some r → w.heap.size + 1 + 1 + 1 + 1 + 1 ≤ r ∧ ¬ D r) : NdX w n0 l n D Y := by
  obtain ⟨i, t, e1, e2, qa, ca, q, cap, Fa, F, hb, hk, hD⟩ := h
  have hl := (Array.getElem?_eq_some_iff.1 hb.box).1
  have kp : ∀ c ∈ Fa ++ F, Y.heap[c]? = X.heap[c]? := fun c hc => hg.block c (hb.lies c hc).2 (fun e => (hr c e.symm).2 (hD c hc))
  exact ⟨i, t, e1, e2, qa, ca, q, cap, Fa, F, ⟨(hg.block _ hl (fun e => by have := (hr _ e.symm).1; omega)).trans hb.box, hb.lc, hb.cm, ⟨hb.oa.1.keep (fun c hc => kp c (by simp [hc])), hb.oa.2⟩, hb.ow.keep (fun c hc => kp c (by simp [hc])), hb.nd, fun c hc => ⟨(hb.lies c hc).1, Nat.lt_of_lt_of_le (hb.lies c hc).2 hg.size⟩⟩,
    hk.kept hg (fun e => by have := (hr _ e.symm).1; omega), hD⟩

theorem node_results {tmps : Array Value} {W : World} {B b : Nat} {v0 v1 v2 v3 v4 v5 v6 v7 v8 v9 : Value} {r : Value} (h4 : tmps.getD 4 undef = .pointer (some ⟨B, 0, none⟩)) (h5 : tmps.getD 5 undef = .pointer (some ⟨b, 0, none⟩))
    (hb : W.heap[B]? = some (.cells #[v0, v1, v2, v3, v4, v5, v6, v7, v8, v9] 43 (0, 0))) (hc : W.cell? ⟨b, 0, none⟩ = some r) :
    (results Try.f39 tmps).run Try.prog W = .ok (.tuple #[.agg #[v0, v1, v2, v3, v4, v5, v6, v7, v8, v9], r]) W := by
  obtain ⟨y0, y1, y2, y3, y4, y5, y6, y7, y8, y9⟩ := row10 hb
  have h4' : tmps[4]?.getD undef = .pointer (some ⟨B, 0, none⟩) := by simpa using h4
  have h5' : tmps[5]?.getD undef = .pointer (some ⟨b, 0, none⟩) := by simpa using h5
  simp [results, Try.results39, go_sem, h4', h5', y0, y1, y2, y3, y4, y5, y6, y7, y8, y9, hc]
theorem heap_alloc6 (w : World) (a b c d e f : Obj) (i : Nat) (hi : i < 6) : ((((((w.alloc a).alloc b).alloc c).alloc d).alloc e).alloc f).heap[w.heap.size + i]? = [a, b, c, d, e, f][i]? := by
  have e0 := World.alloc_heap_new w a
  have e1 := World.alloc_heap_new (w.alloc a) b
  have e2 := World.alloc_heap_new ((w.alloc a).alloc b) c
  have e3 := World.alloc_heap_new (((w.alloc a).alloc b).alloc c) d
  have e4 := World.alloc_heap_new ((((w.alloc a).alloc b).alloc c).alloc d) e
  have e5 := World.alloc_heap_new (((((w.alloc a).alloc b).alloc c).alloc d).alloc e) f
  simp only [World.size_alloc] at e1 e2 e3 e4 e5
  have k : ∀ (W : World) (o : Obj) (j : Nat), j < W.heap.size → (W.alloc o).heap[j]? = W.heap[j]? := fun W o j hj => (below_box W o).block j hj
  match i, hi with
  | 0, _ => rw [Nat.add_zero, k _ _ _ (by first | (simp; done) | (simp; omega)), k _ _ _ (by first | (simp; done) | (simp; omega)), k _ _ _ (by first | (simp; done) | (simp; omega)), k _ _ _ (by first | (simp; done) | (simp; omega)), k _ _ _ (by simp)]; exact e0
  | 1, _ => rw [k _ _ _ (by first | (simp; done) | (simp; omega)), k _ _ _ (by first | (simp; done) | (simp; omega)), k _ _ _ (by first | (simp; done) | (simp; omega)), k _ _ _ (by simp)]; exact e1
  | 2, _ => rw [k _ _ _ (by first | (simp; done) | (simp; omega)), k _ _ _ (by first | (simp; done) | (simp; omega)), k _ _ _ (by simp)]; exact e2
  | 3, _ => rw [k _ _ _ (by first | (simp; done) | (simp; omega)), k _ _ _ (by simp)]; exact e3
  | 4, _ => rw [k _ _ _ (by simp)]; exact e4
  | 5, _ => exact e5

set_option maxRecDepth 100000 in
set_option maxHeartbeats 4000000 in
theorem Node_any (h : TH) (f : TF) (qa : Option Addr) (ca : Nat) (q : Option Addr) (cap : Nat) (n : Int) (w : World) (hn0 : -9223372036854775808 ≤ n) (hn1 : n ≤ 9223372036854775807) (hh : h.ok) (hok : f.ok) (ha : SlF w qa ca h.ak) (hf : TSl w q cap f) (hsz : 1 + h.ak.size + f.bulk ≤ 1073741824) :
    Calls Try.prog 39 #[.agg (tmV h qa ca q f.len cap), .int .i64 n] w (NodePost w ((h, f) :: f.flat) n) := by
  refine (callsIn_wide (n := 9)).1 ?_
  have hst := tboxed_st w h f qa ca q cap ha hf
  have hall := length_lone 1 h f
  have hfb := TF.size_le_bulk f
  have hmap : (lflatL [(1, h, f)]).map Prod.snd = (h, f) :: f.flat := by rw [lflatL_one, map_lflat]; simp [TF.flat]
  have HP := Lib.hid nodes_any
  have HMAP := Lib.hid hmap
  unfold tmV at *
  refine callsIn_of_wp_marks Try.func39 rfl trivial ?_ rfl
  simp only [Try.ntmps39, List.size_toArray, List.length_cons, List.length_nil, Nat.reduceAdd, Nat.reduceSub, Array.replicate_succ, Array.replicate_zero, List.push_toArray, List.append_toArray, List.nil_append, List.cons_append]
  gi_wp2_with (refine ⟨trivial, ?_⟩; gi_at_call 74; refine (callsIn_wide.2 (HP.out _ _)).mono ?_; rintro e w' ⟨rfl, rfl⟩)
  have hfact : ∃ W0, W0 = ((((((w.alloc (.cells #[.int .u8 h.op, .string h.name, .string h.arg, .int .i64 h.n, .bool h.has, .int .u8 h.ah.op, .string h.ah.name, .int .i64 h.ah.n, .slice qa h.ak.len ca, .slice q f.len cap] 43)).alloc (.cells #[.int .i64 n] 3)).alloc (.cells zT10 43)).alloc (.cells #[.bool false] 4)).alloc (.cells #[.int .i64 0] 3)).alloc (.cells #[.pointer (some ⟨w.heap.size, 0, none⟩)] 82)) := ⟨_, rfl⟩
  obtain ⟨W0, hW0⟩ := hfact
  have hz : W0.heap.size = w.heap.size + 6 := by rw [hW0]; simp
  have hbA : Below (w.alloc (.cells #[.int .u8 h.op, .string h.name, .string h.arg, .int .i64 h.n, .bool h.has, .int .u8 h.ah.op, .string h.ah.name, .int .i64 h.ah.n, .slice qa h.ak.len ca, .slice q f.len cap] 43)).heap.size (w.alloc (.cells #[.int .u8 h.op, .string h.name, .string h.arg, .int .i64 h.n, .bool h.has, .int .u8 h.ah.op, .string h.ah.name, .int .i64 h.ah.n, .slice qa h.ak.len ca, .slice q f.len cap] 43)) W0 := by
    rw [hW0]; exact (((((Below.refl _ _).alloc (by simp) _).alloc (by first | (simp; done) | (simp; omega)) _).alloc (by first | (simp; done) | (simp; omega)) _).alloc (by first | (simp; done) | (simp; omega)) _).alloc (by first | (simp; done) | (simp; omega)) _
  have hget : ∀ i, i < 6 → W0.heap[w.heap.size + i]? = [Obj.cells #[.int .u8 h.op, .string h.name, .string h.arg, .int .i64 h.n, .bool h.has, .int .u8 h.ah.op, .string h.ah.name, .int .i64 h.ah.n, .slice qa h.ak.len ca, .slice q f.len cap] 43, .cells #[.int .i64 n] 3, .cells zT10 43, .cells #[.bool false] 4, .cells #[.int .i64 0] 3, .cells #[.pointer (some ⟨w.heap.size, 0, none⟩)] 82][i]? := fun i hi => by
    rw [hW0]
    exact heap_alloc6 w _ _ _ _ _ _ i hi
  have hc1 : W0.cell? ⟨w.heap.size + 5, 0, none⟩ = some (.pointer (some ⟨w.heap.size, 0, none⟩)) := by simp [World.cell?, hget 5 (by omega)]
  have hnd : NdI w n 0 W0 := ⟨fun i _ => Nat.zero_le _, hget 4 (by omega), hget 1 (by omega), hget 2 (by omega), hget 3 (by omega)⟩
  rw [← hW0]
  refine range_look rfl (by omega) (Bn := w.heap.size + 5) rfl trivial (w.heap.size, 0) hc1 rfl _ hbA (1, h, f) hst ?c3 ?c4
    (fun pre D W => NdI w n pre.length W) (fun c pre D W => c = .ret ∧ NdX w (w.heap.size + 6) ((h, f) :: f.flat) n D W)
    (fun pre D X Y row hx hg hr => hx.kept hg (fun r e => by have := (hr r e).1; omega)) (fun c pre D X Y row hx hg hr => ⟨hx.1, hx.2.kept hg (fun r e => by have := hr r e; exact ⟨by omega, this.2⟩)⟩) hnd
    (fun p => { tmps := #[.agg #[.int .u8 h.op, .string h.name, .string h.arg, .int .i64 h.n, .bool h.has, .int .u8 h.ah.op, .string h.ah.name, .int .i64 h.ah.n, .slice qa h.ak.len ca, .slice q f.len cap], .int .i64 n, .pointer (some ⟨w.heap.size, 0, none⟩), .pointer (some ⟨w.heap.size + 1, 0, none⟩), .pointer (some ⟨w.heap.size + 1 + 1, 0, none⟩), .pointer (some ⟨w.heap.size + 1 + 1 + 1, 0, none⟩), .pointer (some ⟨w.heap.size + 1 + 1 + 1 + 1, 0, none⟩), undef, .pointer (some ⟨p.2.1, p.2.2, none⟩),
      .func (.func 98) #[] #[.pointer (some ⟨w.heap.size + 1 + 1 + 1 + 1 + 1, 0, none⟩)], .int .i64 p.1, .pointer (some ⟨p.2.1, p.2.2, none⟩), undef, undef, undef, undef, undef, undef, undef, undef, undef, undef], defers := [] }) ?assign ?body ?done ?stop
  case assign =>
    intro l p W K hK
    gi_wp2
    simpa using hK
  case c3 => intro t ht; simp at ht; subst ht; exact ⟨hh, hok⟩
  case c4 => rw [hall]; omega
  case body =>
    rintro l pre x rest p D W he hB hp hlt hlv hx1 hx2 hW hD hI
    have hnc := hI.num.cell
    have hnf := hI.num.frozen
    have hbc := hI.nb.cell
    have hlen : pre.length + 1 ≤ 1099511627776 := by rw [he] at hall; simp at hall; omega
    have hxb := lflatL_bulk (x := x) (h := h) (f := f) (by rw [he]; simp)
    have hli : ((h, f) :: f.flat)[pre.length]? = some x.2 := by rw [← HMAP.out, he]; simp
    have HI := Lib.hid hI
    have HZ := Lib.hid hz
    by_cases hno : n = pre.length
    · obtain ⟨_, qx, cx, qk, ck, hth, hxa, hxs⟩ := hp
      have c0 := hth.c0
      have c1 := hth.c1
      have c2 := hth.c2
      have c3 := hth.c3
      have c4 := hth.c4
      have c5 := hth.c5
      have c6 := hth.c6
      have c7 := hth.c7
      have c8 := hth.c8
      have c9 := hth.c9
      have HCP := Lib.hid (Copy_any x.2.1 x.2.2 qx cx qk ck W hx1 hx2 hxa hxs (by omega))
      have hno' : ((pre.length : Int) == n) = true := by simp [hno]
      unfold tmV at HCP
      clear hth hxa hxs hI
      gi_wp2
      refine ⟨trivial, ?_⟩
      refine (CallsIn.inRound l (callsIn_wide.2 HCP.out)).mono ?_
      rintro e w2 ⟨qa', ca', q', cap', Fa, F, rfl, hl, hm, hoa, ho, hnd2, hF, hb2⟩
      have hI2 := HI.out.kept (row := none) ⟨hb2.os, hb2.tape, hb2.output, hb2.size, fun b hb _ => hb2.block b hb⟩ (fun r e => by cases e)
      obtain ⟨z0, z1, z2, z3, z4, z5, z6, z7, z8, z9⟩ := row10 hI2.res
      have fz0 : w2.frozen? ⟨w.heap.size + 1 + 1, 0, none⟩ = false := by simp [World.frozen?, hI2.res]
      have fz1 : w2.frozen? ⟨w.heap.size + 1 + 1, 1, none⟩ = false := by simp [World.frozen?, hI2.res]
      have fz2 : w2.frozen? ⟨w.heap.size + 1 + 1, 2, none⟩ = false := by simp [World.frozen?, hI2.res]
      have fz3 : w2.frozen? ⟨w.heap.size + 1 + 1, 3, none⟩ = false := by simp [World.frozen?, hI2.res]
      have fz4 : w2.frozen? ⟨w.heap.size + 1 + 1, 4, none⟩ = false := by simp [World.frozen?, hI2.res]
      have fz5 : w2.frozen? ⟨w.heap.size + 1 + 1, 5, none⟩ = false := by simp [World.frozen?, hI2.res]
      have fz6 : w2.frozen? ⟨w.heap.size + 1 + 1, 6, none⟩ = false := by simp [World.frozen?, hI2.res]
      have fz7 : w2.frozen? ⟨w.heap.size + 1 + 1, 7, none⟩ = false := by simp [World.frozen?, hI2.res]
      have fz8 : w2.frozen? ⟨w.heap.size + 1 + 1, 8, none⟩ = false := by simp [World.frozen?, hI2.res]
      have fz9 : w2.frozen? ⟨w.heap.size + 1 + 1, 9, none⟩ = false := by simp [World.frozen?, hI2.res]
      have okc := hI2.ok.cell
      have okf := hI2.ok.frozen
      have hWz : w.heap.size + 6 ≤ W.heap.size := by rw [← HZ.out]; exact hW
      have hg := set10_grown w2 (w.heap.size + 1 + 1) (.int .u8 x.2.1.op) (.string x.2.1.name) (.string x.2.1.arg) (.int .i64 x.2.1.n) (.bool x.2.1.has) (.int .u8 x.2.1.ah.op) (.string x.2.1.ah.name) (.int .i64 x.2.1.ah.n) (.slice qa' x.2.1.ak.len ca') (.slice q' x.2.2.len cap')
      have hrow := set10_row hI2.res (.int .u8 x.2.1.op) (.string x.2.1.name) (.string x.2.1.arg) (.int .i64 x.2.1.n) (.bool x.2.1.has) (.int .u8 x.2.1.ah.op) (.string x.2.1.ah.name) (.int .i64 x.2.1.ah.n) (.slice qa' x.2.1.ak.len ca') (.slice q' x.2.2.len cap')
      have hg3 := grownBy_setCell' (World.set10 w2 (w.heap.size + 1 + 1) (.int .u8 x.2.1.op) (.string x.2.1.name) (.string x.2.1.arg) (.int .i64 x.2.1.n) (.bool x.2.1.has) (.int .u8 x.2.1.ah.op) (.string x.2.1.ah.name) (.int .i64 x.2.1.ah.n) (.slice qa' x.2.1.ak.len ca') (.slice q' x.2.2.len cap')) (w.heap.size + 1 + 1 + 1) (.bool true)
      have hokb := (hI2.ok.kept hg (fun e => by have := Option.some.inj e; omega)).set (.bool true)
      have hlt2 := (Array.getElem?_eq_some_iff.1 hrow).1
      have hs2 := hb2.size
      have hs3 := hg.size
      have hs4 := hg3.size
      have kp : ∀ c, c < w2.heap.size → c ≠ w.heap.size + 1 + 1 → c ≠ w.heap.size + 1 + 1 + 1 → ((World.set10 w2 (w.heap.size + 1 + 1) (.int .u8 x.2.1.op) (.string x.2.1.name) (.string x.2.1.arg) (.int .i64 x.2.1.n) (.bool x.2.1.has) (.int .u8 x.2.1.ah.op) (.string x.2.1.ah.name) (.int .i64 x.2.1.ah.n) (.slice qa' x.2.1.ak.len ca') (.slice q' x.2.2.len cap')).setCell ⟨w.heap.size + 1 + 1 + 1, 0, none⟩ (.bool true)).heap[c]? = w2.heap[c]? := fun c h1 h2 h3 =>
        (hg3.block c (by omega) (fun e => h3 (Option.some.inj e))).trans (hg.block c h1 (fun e => h2 (Option.some.inj e)))
      have hbX : ∀ N, N ≤ w.heap.size + 1 + 1 → Below N W ((World.set10 w2 (w.heap.size + 1 + 1) (.int .u8 x.2.1.op) (.string x.2.1.name) (.string x.2.1.arg) (.int .i64 x.2.1.n) (.bool x.2.1.has) (.int .u8 x.2.1.ah.op) (.string x.2.1.ah.name) (.int .i64 x.2.1.ah.n) (.slice qa' x.2.1.ak.len ca') (.slice q' x.2.2.len cap')).setCell ⟨w.heap.size + 1 + 1 + 1, 0, none⟩ (.bool true)) := fun N hN =>
        ((((hb2.mono (by omega : N ≤ W.heap.size)).grown hg (by omega) (fun r e => by have := Option.some.inj e; omega))).grown hg3 (by omega) (fun r e => by have := Option.some.inj e; omega))
      have HEND : Hid (∃ D', Tch W0.heap.size D D' W ((World.set10 w2 (w.heap.size + 1 + 1) (.int .u8 x.2.1.op) (.string x.2.1.name) (.string x.2.1.arg) (.int .i64 x.2.1.n) (.bool x.2.1.has) (.int .u8 x.2.1.ah.op) (.string x.2.1.ah.name) (.int .i64 x.2.1.ah.n) (.slice qa' x.2.1.ak.len ca') (.slice q' x.2.2.len cap')).setCell ⟨w.heap.size + 1 + 1 + 1, 0, none⟩ (.bool true)) ∧ Below (w.heap.size + 1) W ((World.set10 w2 (w.heap.size + 1 + 1) (.int .u8 x.2.1.op) (.string x.2.1.name) (.string x.2.1.arg) (.int .i64 x.2.1.n) (.bool x.2.1.has) (.int .u8 x.2.1.ah.op) (.string x.2.1.ah.name) (.int .i64 x.2.1.ah.n) (.slice qa' x.2.1.ak.len ca') (.slice q' x.2.2.len cap')).setCell ⟨w.heap.size + 1 + 1 + 1, 0, none⟩ (.bool true)) ∧ NdX w (w.heap.size + 6) ((h, f) :: f.flat) n D' ((World.set10 w2 (w.heap.size + 1 + 1) (.int .u8 x.2.1.op) (.string x.2.1.name) (.string x.2.1.arg) (.int .i64 x.2.1.n) (.bool x.2.1.has) (.int .u8 x.2.1.ah.op) (.string x.2.1.ah.name) (.int .i64 x.2.1.ah.n) (.slice qa' x.2.1.ak.len ca') (.slice q' x.2.2.len cap')).setCell ⟨w.heap.size + 1 + 1 + 1, 0, none⟩ (.bool true))) := Lib.hid (by
        refine ⟨fun c => D c ∨ c ∈ Fa ++ F, ⟨by omega, fun b h1 h2 h3 => ?_, fun b hb => ?_, fun b hb => .inl hb⟩, hbX _ (by omega), pre.length, x.2, hno, hli, qa', ca', q', cap', Fa, F, ⟨(hg3.block _ hlt2 (fun e => by have := Option.some.inj e; omega)).trans hrow, hl, hm, ⟨hoa.1.keep (fun c hc => ?_), hoa.2⟩, ho.keep (fun c hc => ?_), hnd2, fun c hc => ?_⟩, hokb, fun c hc => .inr hc⟩
        · have := HZ.out; exact (kp b (by omega) (by omega) (by omega)).trans (hb2.block b h2)
        · exact hb.imp id (fun h => by have := hF b h; omega)
        · have := hF c (by simp [hc]); exact kp c this.2 (by omega) (by omega)
        · have := hF c (by simp [hc]); exact kp c this.2 (by omega) (by omega)
        · have := hF c hc; omega)
      clear hoa ho hnd2 hF hg hrow hg3 hokb kp hbX hlt2
      gi_wp2
      obtain ⟨D', e1, e2, e3⟩ := HEND.out
      exact ⟨D', e1, by rw [World.size_alloc]; exact e2, rfl, e3⟩
    · have hno' : ((pre.length : Int) == n) = false := by rw [beq_eq_false_iff_ne]; exact fun e => hno e.symm
      clear hI
      gi_wp2
      have hg := grownBy_setCell' W (w.heap.size + 1 + 1 + 1 + 1) (.int .i64 ((pre.length : Int) + 1))
      have hl2 := (Array.getElem?_eq_some_iff.1 HI.out.res).1
      refine ⟨D, Tch.set _ (by have := HZ.out; omega), (Below.refl _ _).setCell (p := ⟨w.heap.size + 1 + 1 + 1 + 1, 0, none⟩) (by first | (simp; done) | (simp; omega)) _, ⟨fun i hi => ?_, ?_, HI.out.nb.kept hg (fun e => by have := Option.some.inj e; omega), (hg.block _ hl2 (fun e => by have := Option.some.inj e; omega)).trans HI.out.res, HI.out.ok.kept hg (fun e => by have := Option.some.inj e; omega)⟩⟩
      · have := HI.out.no i hi
        rw [List.length_append, List.length_singleton]
        have : i ≠ pre.length := fun e => hno (by rw [hi, e])
        omega
      · have := HI.out.num.set (.int .i64 ((pre.length : Int) + 1))
        rw [List.length_append, List.length_singleton]
        simpa using this
  case done =>
    rintro K D W hK hDK hB hI hKd
    obtain ⟨z0, z1, z2, z3, z4, z5, z6, z7, z8, z9⟩ := row10 hI.res
    have fz0 : W.frozen? ⟨w.heap.size + 1 + 1, 0, none⟩ = false := by simp [World.frozen?, hI.res]
    have fz1 : W.frozen? ⟨w.heap.size + 1 + 1, 1, none⟩ = false := by simp [World.frozen?, hI.res]
    have fz2 : W.frozen? ⟨w.heap.size + 1 + 1, 2, none⟩ = false := by simp [World.frozen?, hI.res]
    have fz3 : W.frozen? ⟨w.heap.size + 1 + 1, 3, none⟩ = false := by simp [World.frozen?, hI.res]
    have fz4 : W.frozen? ⟨w.heap.size + 1 + 1, 4, none⟩ = false := by simp [World.frozen?, hI.res]
    have fz5 : W.frozen? ⟨w.heap.size + 1 + 1, 5, none⟩ = false := by simp [World.frozen?, hI.res]
    have fz6 : W.frozen? ⟨w.heap.size + 1 + 1, 6, none⟩ = false := by simp [World.frozen?, hI.res]
    have fz7 : W.frozen? ⟨w.heap.size + 1 + 1, 7, none⟩ = false := by simp [World.frozen?, hI.res]
    have fz8 : W.frozen? ⟨w.heap.size + 1 + 1, 8, none⟩ = false := by simp [World.frozen?, hI.res]
    have fz9 : W.frozen? ⟨w.heap.size + 1 + 1, 9, none⟩ = false := by simp [World.frozen?, hI.res]
    have okc := hI.ok.cell
    have okf := hI.ok.frozen
    have HI := Lib.hid hI
    have HZ := Lib.hid hz
    have HB := Lib.hid hB
    clear hI hB
    gi_wp2
    have hg := set10_grown W (w.heap.size + 1 + 1) (.int .u8 0) (.string ⟨#[]⟩) (.string ⟨#[]⟩) (.int .i64 0) (.bool false) (.int .u8 0) (.string ⟨#[]⟩) (.int .i64 0) (.slice none 0 0) (.slice none 0 0)
    have hrow := set10_row HI.out.res (.int .u8 0) (.string ⟨#[]⟩) (.string ⟨#[]⟩) (.int .i64 0) (.bool false) (.int .u8 0) (.string ⟨#[]⟩) (.int .i64 0) (.slice none 0 0) (.slice none 0 0)
    have hg3 := grownBy_setCell' (World.set10 W (w.heap.size + 1 + 1) (.int .u8 0) (.string ⟨#[]⟩) (.string ⟨#[]⟩) (.int .i64 0) (.bool false) (.int .u8 0) (.string ⟨#[]⟩) (.int .i64 0) (.slice none 0 0) (.slice none 0 0)) (w.heap.size + 1 + 1 + 1) (.bool false)
    have hokb := (HI.out.ok.kept hg (fun e => by have := Option.some.inj e; omega)).set (.bool false)
    have hKn : w.heap.size + 6 ≤ K := by rw [← HZ.out]; exact hK
    have hKl := (Array.getElem?_eq_some_iff.1 hKd).1
    have hKd' := (hg3.block K (by have := hg.size; omega) (by intro e; have := Option.some.inj e; omega)).trans ((hg.block K hKl (by intro e; have := Option.some.inj e; omega)).trans hKd)
    refine ⟨by simp, .inl ⟨_, _, rfl, run_takeDeferred hKd', ?_⟩⟩
    have hg2 := grownBy_putObj' ((World.set10 W (w.heap.size + 1 + 1) (.int .u8 0) (.string ⟨#[]⟩) (.string ⟨#[]⟩) (.int .i64 0) (.bool false) (.int .u8 0) (.string ⟨#[]⟩) (.int .i64 0) (.slice none 0 0) (.slice none 0 0)).setCell ⟨w.heap.size + 1 + 1 + 1, 0, none⟩ (.bool false)) K (.deferred none)
    have hrow3 := (hg3.block _ (Array.getElem?_eq_some_iff.1 hrow).1 (by intro e; have := Option.some.inj e; omega)).trans hrow
    have hrow4 := (hg2.block _ (Array.getElem?_eq_some_iff.1 hrow3).1 (by intro e; have := Option.some.inj e; omega)).trans hrow3
    have hok4 := (hokb.kept hg2 (by intro e; have := Option.some.inj e; omega)).cell
    refine ⟨.tuple #[.agg zT10, .bool false], node_results rfl rfl hrow4 hok4, ?_, .inr ⟨fun i hi => ?_, rfl⟩⟩
    · have hb0 : Below w.heap.size w W := (below_box _ _).trans (HB.out.mono (by simp))
      have s1 := hb0.size
      have s2 := hg.size
      have s3 := hg3.size
      exact ((hb0.grown hg (by omega) (fun r e => by have := Option.some.inj e; omega)).grown hg3 (by omega) (fun r e => by have := Option.some.inj e; omega)).grown hg2 (by omega) (fun r e => by have := Option.some.inj e; omega)
    · have := HI.out.no i hi
      rw [← HMAP.out, List.length_map]
      exact this
  case stop =>
    rintro K c pre rest D W hK hDK he hB ⟨rfl, hx⟩ hKd
    have HX := Lib.hid hx
    have HZ := Lib.hid hz
    have HB := Lib.hid hB
    clear hx hB
    gi_wp2
    obtain ⟨i, t, e1, e2, qa', ca', q', cap', Fa, F, hb, hk, hD⟩ := HX.out
    have hKn : w.heap.size + 6 ≤ K := by rw [← HZ.out]; exact hK
    have hKl := (Array.getElem?_eq_some_iff.1 hKd).1
    refine ⟨by simp, .inl ⟨_, _, rfl, run_takeDeferred hKd, ?_⟩⟩
    have hg2 := grownBy_putObj' W K (.deferred none)
    have hrow4 := (hg2.block _ (Array.getElem?_eq_some_iff.1 hb.box).1 (by intro e; have := Option.some.inj e; omega)).trans hb.box
    have hok4 := (hk.kept hg2 (by intro e; have := Option.some.inj e; omega)).cell
    have kp : ∀ c ∈ Fa ++ F, (W.putObj K (.deferred none)).heap[c]? = W.heap[c]? := fun c hc => hg2.block c (hb.lies c hc).2 (fun e => hDK (Option.some.inj e ▸ hD c hc))
    have hb0 : Below w.heap.size w W := (below_box _ _).trans (HB.out.mono (by simp))
    have s1 := hb0.size
    have s2 := hg2.size
    exact ⟨.tuple #[.agg (tmV t.1 qa' ca' q' t.2.len cap'), .bool true], node_results rfl rfl hrow4 hok4, hb0.grown hg2 (by omega) (fun r e => by have := Option.some.inj e; omega),
      .inl ⟨i, t, e1, e2, qa', ca', q', cap', Fa, F, rfl, hb.lc, hb.cm, ⟨hb.oa.1.keep (fun c hc => kp c (by simp [hc])), hb.oa.2⟩, hb.ow.keep (fun c hc => kp c (by simp [hc])), hb.nd, fun c hc => by have := hb.lies c hc; omega⟩⟩
end Go.Proofs.Ytcjhgefkbnbmnaa
