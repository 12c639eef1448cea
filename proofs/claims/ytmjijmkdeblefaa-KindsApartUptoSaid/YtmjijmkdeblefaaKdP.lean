/- flat. -/
import Derived.Test.YtmjijmkdeblefaaKdO
import Derived.BigRegion
import Derived.RegionTactic
namespace Go.Proofs.Ytmjijmkdeblefaa
open Go.RowKit LM
set_option linter.unusedVariables false

/-- append of a part that is there to a slice of the call's own, as a step of a region that draws. -/
theorem step_append_own {P : Program} {ops : Array Oper} {o : Oper} {a : Act} {w : World} {K : Act → World → Prop} {Q : Exit → Act → World → Prop} {E : Prop}
    (hg : o.guard = none) (s x : Operand) (t : TypeId) (hop : o.op = Op.call { callee := Callee.builtin Builtin.append, args := #[s, x], argTypes := #[t, t] })
    (base : Nat) (e : TypeId) (i : TypeInfo) (z : Value) (size bytes : Nat) (h1 : P.underlying t = some (.slice e)) (h2 : P.info? e = some i) (h3 : i.zero = some z) (h4 : i.size = size) (h5 : i.bytes = bytes) (h6 : z.cells.size = size) (h7 : 0 < size)
    (v : Value) (n : Nat) (xs : List Value) (hs : a.eval s = v) (hown : w.ownsRow base e size v n xs)
    (ad : Addr) (m c : Nat) (news : List Value) (hx : a.eval x = .slice (some ad) m c) (hn : news.length = m * size) (hc : ∀ j u, news[j]? = some u → w.cell? (ad.add j) = some u) (h1c : ∀ u ∈ news, u.oneCell' = true)
    (b1 : n + m ≤ maxLen) (b2 : (n + m) * bytes ≤ 140737488355328) (hb : base ≤ w.heap.size)
    (hK : ∀ v' w', w'.ownsRow base e size v' (n + m) (xs ++ news) → w.grownBy w' v.ownBlock → K (a.put o.dst v') w') :
    if Region.wanted o (yielded ops a.tmps) = true then Oper.wp P o a w K Q else E := by
  have hw : Region.wanted o (yielded ops a.tmps) = true := by simp [Region.wanted, hg]
  rw [if_pos hw]
  obtain ⟨v', w', hrun, r1, r2, _⟩ := run_append_own (P := P) w base t o.type e i z size bytes h1 h2 h3 h4 h5 h6 h7 v n xs hown ad m c news hn hc h1c b1 b2 hb
  unfold Oper.wp
  simp [execOp, hop, resolve, invoke, builtin, hs, hx, hrun, Result.andThen]
  exact hK v' w' r1 r2


theorem own_base {w : World} {B B' : Nat} {e : TypeId} {size : Nat} {v : Value} {n : Nat} {xs : List Value} (h : w.ownsRow B e size v n xs) (hb : B' ≤ B) : w.ownsRow B' e size v n xs := by
  refine ⟨h.1, h.2.imp id ?_⟩
  rintro ⟨g, cap, cur, h1, h2, h3⟩
  exact ⟨g, cap, cur, h1, Nat.le_trans hb h2, h3⟩
/-- What flat keeps while it goes down the row. -/
structure FlatI (w : World) (fs pre rest : List Fld) (h : Hd) (k : Fo) (q : Option Addr) (cap : Nat) (th : Hd) (tk : Fo) (tq : Option Addr) (tc : Nat) (v : Value) (wr : World) : Prop where
  eq : fs = pre ++ rest
  own : wr.ownsRow (w.heap.size + 2) 40 5 v pre.length (fldCells pre)
  ch : RowCh w h k q cap rest th tk tq tc
  box : wr.heap[w.heap.size]? = some (.cells #[.int .u8 h.op, .string h.name, .int .i64 h.n, .slice q k.len cap] 25 (0, 0))
  res : wr.heap[w.heap.size + 1]? = some (.cells #[.int .u8 0, .string ⟨#[]⟩, .int .i64 0, .slice none 0 0] 25 (0, 0))
  below : Below w.heap.size w wr
  room : w.heap.size + 2 ≤ wr.heap.size

theorem row4 {w : World} {b : Nat} {v0 v1 v2 v3 : Value} {t : TypeId} (h : w.heap[b]? = some (.cells #[v0, v1, v2, v3] t (0, 0))) :
    w.cell? ⟨b, 0, none⟩ = some v0 ∧ w.cell? ⟨b, 1, none⟩ = some v1 ∧ w.cell? ⟨b, 2, none⟩ = some v2 ∧ w.cell? ⟨b, 3, none⟩ = some v3 ∧ w.frozen? ⟨b, 0, none⟩ = false ∧ w.frozen? ⟨b, 1, none⟩ = false ∧ w.frozen? ⟨b, 2, none⟩ = false ∧ w.frozen? ⟨b, 3, none⟩ = false := by
  simp [World.cell?, World.frozen?, h]

/-- What flat answers. -/
def FlatPost (w : World) (fs : List Fld) (th : Hd) (tk : Fo) (tq : Option Addr) (tc : Nat) (e : Ending) (w' : World) : Prop :=
  ∃ v, e = .returned (.tuple #[v, .agg #[.int .u8 th.op, .string th.name, .int .i64 th.n, .slice tq tk.len tc]]) ∧ w'.ownsRow w.heap.size 40 5 v fs.length (fldCells (insF fs)) ∧ Below w.heap.size w w'

theorem fld_one (f : Fld) : ∀ u ∈ f.enc, u.oneCell' = true := by
  intro u hu
  simp [Fld.enc] at hu
  rcases hu with rfl | rfl | rfl | rfl | rfl <;> rfl
theorem cells_new (w : World) (cs : List Value) (t : TypeId) : ∀ j u, cs[j]? = some u → (w.alloc (.cells cs.toArray t)).cell? ((⟨w.heap.size, 0, none⟩ : Addr).add j) = some u := by
  intro j u hj
  have := World.alloc_heap_new w (.cells cs.toArray t)
  simp only [Addr.add_lit, World.cell?, this]
  simpa using hj

/-- One field more. -/
theorem FlatI.grow {w : World} {fs pre fs2 : List Fld} {f : Fld} {h h2 th : Hd} {k k2 tk : Fo} {q q2 tq : Option Addr} {cap cap2 tc L : Nat} {v v' : Value} {wr w1 : World} {o : Obj} (hI : FlatI w fs pre (f :: fs2) h k q cap th tk tq tc v wr) (hL : k.len = L)
    (hown : w1.ownsRow (w.heap.size + 2) 40 5 v' (pre.length + 1) (fldCells pre ++ f.enc)) (hg : (wr.alloc o).drew.grownBy w1 v.ownBlock) :
    (RowCh w h2 k2 q2 cap2 fs2 th tk tq tc → FlatI w fs (pre ++ [f]) fs2 h2 k2 q2 cap2 th tk tq tc v' (World.set4 w1 w.heap.size (.int .u8 h2.op) (.string h2.name) (.int .i64 h2.n) (.slice q2 k2.len cap2))) ∧
      w1.heap[w.heap.size]? = some (.cells #[.int .u8 h.op, .string h.name, .int .i64 h.n, .slice q L cap] 25 (0, 0)) ∧ Below w.heap.size w w1 := by
  subst hL
  have hbk : ∀ r, v.ownBlock = some r → w.heap.size + 2 ≤ r := fun r e => (hI.own.lt r e).1
  have l1 := (Array.getElem?_eq_some_iff.1 hI.box).1
  have l2 := (Array.getElem?_eq_some_iff.1 hI.res).1
  have ho : ∀ c, c < wr.heap.size → (wr.alloc o).drew.heap[c]? = wr.heap[c]? := fun c hc => (below_box wr o).block c hc
  have hs : ∀ c, c < wr.heap.size → c < (wr.alloc o).drew.heap.size := fun c hc => by show c < (wr.alloc o).heap.size; simp; omega
  have e1 : w1.heap[w.heap.size]? = wr.heap[w.heap.size]? := (hg.block _ (hs _ l1) (fun e => by have := hbk _ e.symm; omega)).trans (ho _ l1)
  have e2 : w1.heap[w.heap.size + 1]? = wr.heap[w.heap.size + 1]? := (hg.block _ (hs _ l2) (fun e => by have := hbk _ e.symm; omega)).trans (ho _ l2)
  have hb1 : Below w.heap.size w w1 := ((hI.below.alloc hI.below.size o).drew).grown hg (by show _ ≤ (wr.alloc o).heap.size; have := hI.below.size; simp; omega) (fun r e => by have := hbk r e; omega)
  have hg4 := set4_grown w1 w.heap.size (.int .u8 h2.op) (.string h2.name) (.int .i64 h2.n) (.slice q2 k2.len cap2)
  have hsz : w.heap.size + 2 ≤ w1.heap.size := by have := hg.size; have := hI.room; have : (wr.alloc o).drew.heap.size = wr.heap.size + 1 := World.size_alloc _ _; omega
  refine ⟨fun hch => ⟨by rw [hI.eq]; simp, ?_, hch, set4_row (e1.trans hI.box) _ _ _ _, (hg4.block _ (by omega) (by intro e; have := Option.some.inj e; omega)).trans (e2.trans hI.res), hb1.grown hg4 hb1.size (fun r e => by have := Option.some.inj e; omega), Nat.le_trans hsz hg4.size⟩, e1.trans hI.box, hb1⟩
  rw [fldCells_snoc, List.length_append]
  refine hown.kept hg4 ?_
  rcases hv : v'.ownBlock with _ | r
  · exact .inl rfl
  · right; intro e; have := (hown.lt r hv).1; have := Option.some.inj e; omega

theorem flat_bd {n : Nat} (h : n + 1 ≤ 19) : n + 1 ≤ maxLen := by unfold maxLen; omega
theorem flat_bd2 {n : Nat} (h : n + 1 ≤ 19) : (n + 1) * 72 ≤ 140737488355328 := by omega
theorem flat_bd3 {w wr : World} {o : Obj} (h : w.heap.size + 2 ≤ wr.heap.size) : w.heap.size + 2 ≤ (wr.alloc o).drew.heap.size := by
  show _ ≤ (wr.alloc o).heap.size
  rw [World.size_alloc]; omega

set_option maxRecDepth 100000 in
set_option maxHeartbeats 2000000 in
theorem flat_few (h : Hd) (k : Fo) (q : Option Addr) (cap : Nat) (w : World) (fs : List Fld) (th : Hd) (tk : Fo) (tq : Option Addr) (tc : Nat) (hc : RowCh w h k q cap fs th tk tq tc) (hl : fs.length < 20) :
    Calls Try.prog 72 #[.agg #[.int .u8 h.op, .string h.name, .int .i64 h.n, .slice q k.len cap]] w (FlatPost w fs th tk tq tc) := by
  have HC := Lib.hid hc
  obtain ⟨i0, hi, hz0, hz1, hz2⟩ := info_parts info37
  clear hc
  have hs : FlatI w fs [] fs h k q cap th tk tq tc (.slice none 0 0) ((w.alloc (.cells #[.int .u8 h.op, .string h.name, .int .i64 h.n, .slice q k.len cap] 25)).alloc (.cells #[.int .u8 0, .string ⟨#[]⟩, .int .i64 0, .slice none 0 0] 25)) := by
    have e1 := World.alloc_heap_new w (.cells #[.int .u8 h.op, .string h.name, .int .i64 h.n, .slice q k.len cap] 25)
    have e2 := World.alloc_heap_new (w.alloc (.cells #[.int .u8 h.op, .string h.name, .int .i64 h.n, .slice q k.len cap] 25)) (.cells #[.int .u8 0, .string ⟨#[]⟩, .int .i64 0, .slice none 0 0] 25)
    rw [World.size_alloc] at e2
    exact ⟨rfl, World.ownsRow_nil _ _ _ _, HC.out, ((below_box _ _).block _ (by simp)).trans e1, e2, ((Below.refl _ _).alloc (Nat.le_refl _) _).alloc (by simp) _, by simp⟩
  have HS := Lib.hid hs
  clear hs
  go_enter Try.func72, Try.ntmps72
  go_wp2
  go_loopg [4] fs.length (fun g v wr => ∃ pre rest h1 k1 q1 cap1, g = rest.length ∧ FlatI w fs pre rest h1 k1 q1 cap1 th tk tq tc v wr)
  case atStart => exact ⟨[], fs, h, k, q, cap, rfl, HS.out⟩
  case round =>
    obtain ⟨pre, rest, h1, k1, q1, cap1, hg, hI⟩ := hrel
    have hch := hI.ch
    cases hch with
    | stop hop hsl =>
      have hop' : (th.op == 11) = false := by simpa using hop
      obtain ⟨r0, r1, r2, r3, _⟩ := row4 hI.box
      have hpre : pre = fs := by have := hI.eq; simpa using this.symm
      subst hpre
      have HSRT := Lib.hid (sort_few wr (w.heap.size + 2) u4 pre hI.own hl)
      have HI := Lib.hid hI
      clear hI hop
      go_wp2_with (go_at_call 94; refine HSRT.out.mono ?_; rintro e w2 ⟨rfl, hp1, hp2⟩; have hb1 := (hp2.block _ (Array.getElem?_eq_some_iff.1 HI.out.box).1 (fun e => by have := (HI.out.own.lt _ e.symm).1; omega)).trans HI.out.box; have hb2 := (hp2.block _ (Array.getElem?_eq_some_iff.1 HI.out.res).1 (fun e => by have := (HI.out.own.lt _ e.symm).1; omega)).trans HI.out.res; obtain ⟨x0, x1, x2, x3, _⟩ := row4 hb1; obtain ⟨y0, y1, y2, y3, z0, z1, z2, z3⟩ := row4 hb2; have HB2 := Lib.hid hb2; have HP1 := Lib.hid hp1; have HP2 := Lib.hid hp2; clear hb1 hb2 hp1 hp2)
      go_region
      all_goals
        go_wp2
        have hg := set4_grown w2 (w.heap.size + 1) (.int .u8 th.op) (.string th.name) (.int .i64 th.n) (.slice tq tk.len tc)
        have hbk : ∀ r, u4.ownBlock = some r → w.heap.size + 2 ≤ r := fun r e => (HI.out.own.lt r e).1
        refine bodyPost_ret (v := .tuple #[u4, .agg #[.int .u8 th.op, .string th.name, .int .i64 th.n, .slice tq tk.len tc]]) (by simp [results, Try.results72, go_sem, y0, y1, y2, y3]) rfl ⟨u4, rfl, ?_, ?_⟩
        · refine own_base (World.ownsRow.drew (HP1.out.kept hg ?_)) (by omega)
          rcases hv : u4.ownBlock with _ | r
          · exact .inl rfl
          · right; intro e; have := hbk r hv; have := Option.some.inj e; omega
        · have hb2 : Below w.heap.size w w2 := HI.out.below.grown HP2.out HI.out.below.size (fun r e => by have := hbk r e; omega)
          have hb3 := hb2.grown hg hb2.size (fun r e => by have := Option.some.inj e; omega)
          exact hb3.trans ((Below.refl _ _).drew)
    | @step _ h0 h2 _ k0 k2 r _ q0 q2 _ b o _ cap0 cap2 _ fs2 hop hcap a0 a1 s0 s1 next =>
      have hop' : (h1.op == 11) = true := by simp [hop]
      have hL : 2 ≤ (Fo.cons h0 k0 (.cons h2 k2 r)).len := by simp [Fo.len]
      have hbox := hI.box
      generalize hLe : (Fo.cons h0 k0 (.cons h2 k2 r)).len = L at *
      obtain ⟨r0, r1, r2, r3, z0, z1, z2, z3⟩ := row4 hbox
      have hL0 : 0 < L := by omega
      have hL1 : 1 < L := by omega
      have hcm := hcap.2
      unfold maxLen at hcm
      have hlc := hcap.1
      have d0 := (a0.same (hI.below.block _ a0.lt)).c0
      have d1 := (a0.same (hI.below.block _ a0.lt)).c1
      have d2 := (a0.same (hI.below.block _ a0.lt)).c2
      have d3 := (a0.same (hI.below.block _ a0.lt)).c3
      have hlt := a0.lt
      have hpl : pre.length + 1 ≤ 19 := by have := congrArg List.length hI.eq; simp at this; omega
      have HI := Lib.hid hI
      have HN := Lib.hid next
      have HA0 := Lib.hid a0
      have HA1 := Lib.hid a1
      have HS0 := Lib.hid s0
      have hown := hI.own
      have hroom := hI.room
      rw [hop] at r0
      clear hI hop hop' next a0 a1 s0 s1 hbox
      go_wp2
      go_region_law ((refine step_append_own rfl (.tmp 8) (.tmp 16) 36 rfl (w.heap.size + 2) 40 i0 _ 5 72 Try.underlying36 hi hz0 hz1 hz2 rfl (by decide) _ _ _ rfl (World.ownsRow.drew (hown.alloc _)) ⟨wr.heap.size, 0, none⟩ 1 1 (Fld.enc ⟨h1.name, h0, q0, k0, cap0⟩) rfl rfl (cells_new wr (Fld.enc ⟨h1.name, h0, q0, k0, cap0⟩) 40) (fld_one _) (flat_bd hpl) (flat_bd2 hpl) (flat_bd3 hroom) ?_; intro v' w1 hown2 hgrow))
      all_goals
        obtain ⟨hnx, hbx1, hA⟩ := HI.out.grow (h2 := h2) (k2 := k2) (q2 := q2) (cap2 := cap2) hLe hown2 hgrow
        obtain ⟨x0, x1, x2, x3, t0, t1, t2, t3⟩ := row4 hbx1
        have a1' := HA1.out.same (hA.block _ HA1.out.lt)
        have b0 := a1'.c0
        have b1 := a1'.c1
        have b2 := a1'.c2
        have b3 := a1'.c3
        have HNX := Lib.hid hnx
        have HBX := Lib.hid hbx1
        clear hnx hbx1 hA a1' hown2 hgrow
        go_wp2
        go_roundg fs2.length
        case measure => simp [hg]
        case rel => exact ⟨_, fs2, h2, k2, q2, cap2, rfl, HNX.out HN.out⟩

end Go.Proofs.Ytmjijmkdeblefaa
