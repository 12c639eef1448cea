/- The iterator over a term's nodes. -/
import Derived.Test.YtcjhgefkbnbmnaaPTmA
import Derived.Test.YtcjhgefkbnbmnaaPB
import Derived.Test.YtcjhgefkbnbmnaaPKx
namespace Go.Proofs.Ytcjhgefkbnbmnaa
open Go.RowKit Go.Shelf
set_option linter.unusedVariables false
attribute [local go_sem] Oper.semAt_some

/-- What a round of p that goes on leaves behind. -/
def TNext (n₀ k : Nat) (p : LP) (st : List LP) (J : Nat → List LP → (Nat → Prop) → World → Prop) (D : Nat → Prop) (W W' : World) : Prop :=
  ∃ k' q b o len cap D', k' < k ∧ W'.cell? ⟨p.2.1, p.2.2 + 9, none⟩ = some (.slice q len cap) ∧ (0 < len → q = some ⟨b, o, none⟩) ∧ len ≤ cap ∧ len + st.length ≤ 1099511627776 ∧ p.1 ≤ 1099511627776 ∧
    J k' (lkids p.1 b o len ++ st) D' W' ∧ Tch n₀ D D' W W' ∧ (p.2.1 < n₀ ∨ D' p.2.1)

/-- J abides what turns neither blocks below n₀ nor those that it owns. -/
def TAbT (n₀ : Nat) (J : Nat → List LP → (Nat → Prop) → World → Prop) : Prop :=
  ∀ k st D A B row, J k st D A → A.grownBy B row → (∀ r, row = some r → n₀ ≤ r ∧ ¬ D r) → J k st D B

/-- The iterator's own state. -/
structure TAhead (n₀ B0 : Nat) (J : Nat → List LP → (Nat → Prop) → World → Prop) (k : Nat) (st : List LP) (D : Nat → Prop) (v : Value) (wr : World) : Prop where
  own : wr.ownsRow B0 116 2 v st.length (stC st)
  inv : J k st D wr
  lt : ∀ b, D b → b < wr.heap.size
  ap : ∀ g, v.ownBlock = some g → ¬ D g
  n : n₀ ≤ B0
  b : B0 ≤ wr.heap.size
  small : st.length ≤ 1099511627776
def TAheadX (n₀ B0 : Nat) (J : Nat → List LP → (Nat → Prop) → World → Prop) (k : Nat) (v : Value) (wr : World) : Prop := ∃ st D, TAhead n₀ B0 J k st D v wr

theorem info_place : (Try.prog.info? 116).map (fun i => (i.zero, i.size, i.bytes)) = some (some (.agg #[.int .i64 0, .pointer none]), 2, 16) := by kernel_rfl

theorem TAhead.start {n₀ B0 : Nat} {J : Nat → List LP → (Nat → Prop) → World → Prop} {k : Nat} {D : Nat → Prop} {W : World} {root : Pl} (hJ : TAbT n₀ J) (hB : B0 = W.heap.size) (hn : n₀ ≤ W.heap.size)
    (h0 : J k [(1, root)] D W) (hD : ∀ b, D b → b < W.heap.size) : TAheadX n₀ B0 J k (.slice (some ⟨W.heap.size, 0, none⟩) 1 1) (W.alloc (.cells #[.int .i64 1, root.ptr] 116)) := by
  subst hB
  refine ⟨[(1, root)], D, ⟨rfl, .inr ⟨_, 1, #[.int .i64 1, root.ptr], rfl, Nat.le_refl _, World.alloc_heap_new W _, Nat.le_refl _, by unfold maxLen; omega, rfl, rfl⟩⟩, hJ _ _ _ _ _ none h0 (World.grownBy_alloc W _ none) (fun r e => by cases e), fun b hb => ?_, fun g hg hd => ?_, hn, by simp, by simp⟩
  · have := hD b hb; simp; omega
  · simp [Value.ownBlock] at hg; subst hg; have := hD _ hd; omega

theorem TAhead.value {n₀ B0 : Nat} {J : Nat → List LP → (Nat → Prop) → World → Prop} {k : Nat} {st : List LP} {D : Nat → Prop} {v : Value} {wr : World} (h : TAhead n₀ B0 J k st D v wr) :
    ∃ a cap, v = .slice a st.length cap ∧ st.length ≤ cap := by
  rcases h.own.2 with ⟨rfl, h0⟩ | ⟨g, cap, cur, rfl, _, _, hc, _⟩
  · exact ⟨none, 0, by rw [h0], by omega⟩
  · exact ⟨_, cap, rfl, hc⟩

/-- The last one of a list that isn't empty. -/
theorem TAhead.top {n₀ B0 : Nat} {J : Nat → List LP → (Nat → Prop) → World → Prop} {k : Nat} {p : LP} {st : List LP} {D : Nat → Prop} {v : Value} {wr : World} (h : TAhead n₀ B0 J k (p :: st) D v wr) :
    ∃ g cap, v = .slice (some ⟨g, 0, none⟩) (st.length + 1) cap ∧ st.length + 1 ≤ cap ∧ wr.cell? ⟨g, st.length * 2, none⟩ = some (.int .i64 p.1) ∧ wr.cell? ⟨g, st.length * 2 + 1, none⟩ = some (.pointer (some ⟨p.2.1, p.2.2, none⟩)) ∧
      wr.ownsRow B0 116 2 (.slice (some ⟨g, 0, none⟩) st.length cap) st.length (stC st) ∧ g < wr.heap.size ∧ B0 ≤ g ∧ ¬ D g := by
  obtain ⟨hl, h2⟩ := h.own
  rcases h2 with ⟨_, h0⟩ | ⟨g, cap, cur, rfl, hb, hg, hc, hm, hs, ht⟩
  · simp at h0
  · have hc' : st.length + 1 ≤ cap := hc
    have hlt : g < wr.heap.size := (Array.getElem?_eq_some_iff.1 hg).1
    have ht' : cur.toList.take ((st.length + 1) * 2) = stC st ++ [.int .i64 p.1, .pointer (some ⟨p.2.1, p.2.2, none⟩)] := by rw [stC_cons] at ht; exact ht
    have hlen := length_stC st
    have gt : ∀ i, i < 2 → cur.toList[st.length * 2 + i]? = ([.int .i64 p.1, .pointer (some ⟨p.2.1, p.2.2, none⟩)] : List Value)[i]? := fun i hi => by
      have := congrArg (fun l => l[st.length * 2 + i]?) ht'
      simp only [List.getElem?_take] at this
      rw [if_pos (by omega), List.getElem?_append_right (by omega), hlen, Nat.add_sub_cancel_left] at this
      exact this
    refine ⟨g, cap, rfl, hc', ?_, ?_, ⟨hlen, .inr ⟨g, cap, cur, rfl, hb, hg, by omega, hm, hs, ?_⟩⟩, hlt, hb, h.ap g rfl⟩
    · simp only [World.cell?, hg]
      simpa using gt 0 (by omega)
    · simp only [World.cell?, hg]
      simpa using gt 1 (by omega)
    · have := congrArg (List.take (st.length * 2)) ht'
      rw [List.take_take, Nat.min_eq_left (by omega), List.take_append_of_le_length (by omega), List.take_of_length_le (l := stC st) (by omega)] at this
      exact this

/-- Behind a round the list is as it was. -/
theorem town_behind {n₀ B0 : Nat} {D D' : Nat → Prop} {W W' : World} {g len cap : Nat} {xs : List Value} (h : W.ownsRow B0 116 2 (.slice (some ⟨g, 0, none⟩) len cap) len xs) (ht : Tch n₀ D D' W W') (hn : n₀ ≤ g) (hlt : g < W.heap.size) (hd : ¬ D g) :
    W'.ownsRow B0 116 2 (.slice (some ⟨g, 0, none⟩) len cap) len xs := by
  obtain ⟨hl, h2⟩ := h
  rcases h2 with ⟨h0, _⟩ | ⟨g', cap', cur, e, hb, hg, hc, hm, hs, hx⟩
  · cases h0
  · cases e
    exact ⟨hl, .inr ⟨g, cap, cur, rfl, hb, (ht.same g hn hlt hd).trans hg, hc, hm, hs, hx⟩⟩

/-- While p's Kids are laid on the list: all from the j-th on lie there. -/
structure TMid (n₀ B0 k' : Nat) (J : Nat → List LP → (Nat → Prop) → World → Prop) (p : LP) (st : List LP) (D' : Nat → Prop) (q : Option Addr) (kb ko len cp bx j : Nat) (v : Value) (wx : World) : Prop where
  own : wx.ownsRow B0 116 2 v (st.length + (len - j)) (stC ((lkids p.1 kb ko len).drop j ++ st))
  inv : J k' (lkids p.1 kb ko len ++ st) D' wx
  lt : ∀ b, D' b → b < wx.heap.size
  ap : ∀ g, v.ownBlock = some g → ¬ D' g
  b : B0 ≤ wx.heap.size
  cell : wx.cell? ⟨p.2.1, p.2.2 + 9, none⟩ = some (.slice q len cp)
  box : wx.heap[bx]? = some (.cells #[.int .i64 p.1, .pointer (some ⟨p.2.1, p.2.2, none⟩)] 116 (0, 0))
  bxv : v.ownBlock ≠ some bx

theorem TMid.step {n₀ B0 k' : Nat} {J : Nat → List LP → (Nat → Prop) → World → Prop} {p : LP} {st : List LP} {D' : Nat → Prop} {q : Option Addr} {kb ko len cp bx j : Nat} {v v' : Value} {wx w1 : World} {tmp : Obj}
    (hJ : TAbT n₀ J) (hn : n₀ ≤ B0) (hp : p.2.1 < n₀ ∨ D' p.2.1) (h : TMid n₀ B0 k' J p st D' q kb ko len cp bx (j + 1) v wx) (hj : j < len)
    (hown : w1.ownsRow B0 116 2 v' (st.length + (len - (j + 1)) + 1) (stC ((lkids p.1 kb ko len).drop (j + 1) ++ st) ++ [.int .i64 ((p.1 : Int) + 1), .pointer (some ⟨kb, ko + j * 10, none⟩)])) (hg : (wx.alloc tmp).grownBy w1 v.ownBlock)
    (hv : v'.ownBlock = v.ownBlock ∨ v'.ownBlock = some (wx.alloc tmp).heap.size) : TMid n₀ B0 k' J p st D' q kb ko len cp bx j v' w1 := by
  have hr : ∀ r, v.ownBlock = some r → n₀ ≤ r ∧ ¬ D' r := fun r e => ⟨Nat.le_trans hn (h.own.lt r e).1, h.ap r e⟩
  have hs : wx.heap.size ≤ w1.heap.size := by have := hg.size; simp at this; omega
  have hbl := (Array.getElem?_eq_some_iff.1 h.box).1
  refine ⟨?_, hJ _ _ _ _ _ _ (hJ _ _ _ _ _ none h.inv (World.grownBy_alloc wx tmp none) (fun r e => by cases e)) hg hr, fun b hb => Nat.lt_of_lt_of_le (h.lt b hb) hs, fun g e hd => ?_, Nat.le_trans h.b hs, ?_, ?_, ?_⟩
  · have e1 : st.length + (len - j) = st.length + (len - (j + 1)) + 1 := by omega
    rw [lkids_drop _ _ _ _ _ hj, e1, List.cons_append, stC_cons]
    exact hown
  · rcases hv with h1 | h1
    · exact h.ap g (h1 ▸ e) hd
    · rw [h1] at e; cases e; have := h.lt _ hd; simp at this; omega
  · refine hg.cell (((World.grownBy_alloc wx tmp none).cell h.cell (by simp))) fun e => ?_
    have := hr p.2.1 e.symm
    exact hp.elim (fun h => by omega) this.2
  · exact (hg.block bx (by simp; omega) (fun e => h.bxv e.symm)).trans (((World.grownBy_alloc wx tmp none).block bx hbl (by simp)).trans h.box)
  · rcases hv with h1 | h1
    · rw [h1]; exact h.bxv
    · rw [h1]; intro e; have := Option.some.inj e; simp at this; omega

theorem TMid.drew {n₀ B0 k' : Nat} {J : Nat → List LP → (Nat → Prop) → World → Prop} {p : LP} {st : List LP} {D' : Nat → Prop} {q : Option Addr} {kb ko len cp bx j : Nat} {v : Value} {wx : World} (h : TMid n₀ B0 k' J p st D' q kb ko len cp bx j v wx) (hJ : TAbT n₀ J) : TMid n₀ B0 k' J p st D' q kb ko len cp bx j v wx.drew :=
  have hg : wx.grownBy wx.drew none := ⟨rfl, rfl, rfl, Nat.le_refl _, fun _ _ _ => rfl⟩
  ⟨h.own.drew, hJ _ _ _ _ _ none h.inv hg (fun r e => by cases e), h.lt, h.ap, h.b, h.cell, h.box, h.bxv⟩
theorem i64_one {n : Nat} (h : n ≤ 1099511627776) : IntKind.i64.wrap ((n : Int) + 1) = (n : Int) + 1 := by simp [IntKind.wrap, IntKind.bits, IntKind.signed]; omega

theorem TMid.value {n₀ B0 k' : Nat} {J : Nat → List LP → (Nat → Prop) → World → Prop} {p : LP} {st : List LP} {D' : Nat → Prop} {q : Option Addr} {kb ko len cp bx j : Nat} {v : Value} {wx : World} (h : TMid n₀ B0 k' J p st D' q kb ko len cp bx j v wx) :
    ∃ a cap, v = .slice a (st.length + (len - j)) cap := by
  rcases h.own.2 with ⟨rfl, h0⟩ | ⟨g, cap, cur, rfl, _, _, hc, _⟩
  · exact ⟨none, 0, by rw [h0]⟩
  · exact ⟨_, cap, rfl⟩
theorem TMid.done {n₀ B0 k' : Nat} {J : Nat → List LP → (Nat → Prop) → World → Prop} {p : LP} {st : List LP} {D' : Nat → Prop} {q : Option Addr} {kb ko len cp bx : Nat} {v : Value} {wx : World} (h : TMid n₀ B0 k' J p st D' q kb ko len cp bx 0 v wx) (hn : n₀ ≤ B0)
    (hs : len + st.length ≤ 1099511627776) : TAheadX n₀ B0 J k' v wx := by
  refine ⟨_, D', ?_, h.inv, h.lt, h.ap, hn, h.b, ?_⟩
  · have := h.own
    rw [List.drop_zero] at this
    rwa [List.length_append, length_lkids, show len + st.length = st.length + (len - 0) by omega]
  · rw [List.length_append, length_lkids]; exact hs

theorem TAheadX.least {n₀ B0 : Nat} {J : Nat → List LP → (Nat → Prop) → World → Prop} {k : Nat} {v : Value} {wr : World} (h : TAheadX n₀ B0 J k v wr) :
    ∃ m st D, m = least (fun k => TAheadX n₀ B0 J k v wr) ∧ TAhead n₀ B0 J m st D v wr :=
  have h2 := least_spec (p := fun k => TAheadX n₀ B0 J k v wr) h
  h2.elim fun st h3 => h3.elim fun D h4 => ⟨_, st, D, rfl, h4⟩

set_option maxRecDepth 100000 in
set_option maxHeartbeats 4000000 in
/-- **'nodes': FOR EVERY LOOP BODY: a round at p goes on with p's Kids, as they are behind it, ahead of what was still to come.** -/
theorem nodes1_in (F : Fence) (n : Nat) (h66 : F.fn 98) (hro : F.round = none) (hn : 1 ≤ n) (l Bn n₀ : Nat) (J : Nat → List LP → (Nat → Prop) → World → Prop) (Jx : World → Prop) (hJ : TAbT n₀ J)
    (hY : ∀ k p st D W, n₀ ≤ W.heap.size → J k (p :: st) D W → YieldAt F (n - 1) Try.prog l #[.int .i64 (p.1 : Nat), .pointer (some ⟨p.2.1, p.2.2, none⟩)] W fun e W' =>
      (e = .returned (.bool true) ∧ TNext n₀ k p st J D W W') ∨ (e = .returned (.bool false) ∧ Jx W'))
    (W : World) (hW : n₀ ≤ W.heap.size) (root : Pl) (hBn : W.cell? ⟨Bn, 0, none⟩ = some (.pointer (some ⟨root.1, root.2, none⟩))) (k : Nat) (D : Nat → Prop) (h0 : J k [(1, root)] D W) (hD : ∀ b, D b → b < W.heap.size) :
    CallsIn F n Try.prog 98 #[.func (.yield l) #[] #[], .pointer (some ⟨Bn, 0, none⟩)] W fun e W' => (∃ v, e = .returned v) ∧ ((∃ k D, J k [] D W') ∨ Jx W') := by
  have hS := Lib.hid (TAhead.start hJ rfl hW h0 hD)
  obtain ⟨i0, hi, hz0, hz1, hz2⟩ := info_parts info_place
  clear h0 hD
  refine callsIn_of_wp Try.func98 rfl h66 ?_ hro
  simp only [Try.ntmps98, List.size_toArray, List.length_cons, List.length_nil, Nat.reduceAdd, Nat.reduceSub, Array.replicate_succ, Array.replicate_zero, List.push_toArray, List.append_toArray, List.nil_append, List.cons_append]
  gi_wp2
  gi_loopw [3] (fun v wr => ∃ k, TAheadX n₀ W.heap.size J k v wr) (fun v wr => least fun k => TAheadX n₀ W.heap.size J k v wr)
  case atStart => exact ⟨k, hS.out⟩
  case round =>
    obtain ⟨wo, rfl⟩ : ∃ wo : World, wo = wr := ⟨_, rfl⟩
    obtain ⟨k1, hk1⟩ := hrel
    obtain ⟨m, st, D, hm, hA⟩ := hk1.least
    have hM := Lib.hid hm
    clear hm hk1
    cases st with
    | nil =>
      obtain ⟨a, cap, rfl, hc⟩ := hA.value
      have HA := Lib.hid hA.inv
      clear hA
      simp only [List.length_nil] at hc
      gi_wp2
      go_end0
      exact ⟨⟨_, rfl⟩, .inl ⟨m, D, HA.out⟩⟩
    | cons p st =>
      obtain ⟨g, cap, rfl, hc, hcell0, hcell, hown, hlt, hbg, hdg⟩ := hA.top
      have hsm : st.length + 1 ≤ 1099511627776 := hA.small
      have hJ1 : J m (p :: st) D (wo.alloc (.cells #[.int .i64 p.1, .pointer (some ⟨p.2.1, p.2.2, none⟩)] 116)) := hJ _ _ _ _ _ none hA.inv (World.grownBy_alloc _ _ none) (fun r e => by cases e)
      obtain ⟨fn, tmps, assign, body, hy, hR⟩ := hY m p st D (wo.alloc (.cells #[.int .i64 p.1, .pointer (some ⟨p.2.1, p.2.2, none⟩)] 116)) (by have := hA.n; have := hA.b; simp; omega) hJ1
      have HA := Lib.hid hA
      clear hA
      have hpos : 0 < st.length + 1 := by omega
      have hlen : (p :: st).length = st.length + 1 := rfl
      rw [hlen] at *
      clear hlen
      gi_wp2
      refine hR.mono ?_
      clear hR hy hcell hcell0
      rintro e W3 (⟨rfl, hN⟩ | ⟨rfl, hx⟩)
      · obtain ⟨k', q, kb, ko, len, cp, D', hk', hkc, hq, hlc, hsm2, hlv, hinv, hT0, hp⟩ := hN
        have hT : Tch n₀ D D' wo W3 := ⟨Nat.le_trans (by simp) hT0.size, fun b h1 h2 h3 => (hT0.same b h1 (by simp; omega) h3).trans ((World.grownBy_alloc wo _ none).block b h2 (by simp)), fun b hb => (hT0.own b hb).imp id (fun h => ⟨by have := h.1; simp at this; omega, h.2⟩), hT0.keep⟩
        have hbx0 : ¬ D wo.heap.size := fun hd => absurd (HA.out.lt _ hd) (Nat.lt_irrefl _)
        have hbox : W3.heap[wo.heap.size]? = some (.cells #[.int .i64 p.1, .pointer (some ⟨p.2.1, p.2.2, none⟩)] 116 (0, 0)) :=
          (hT0.same wo.heap.size (by have := HA.out.n; have := HA.out.b; omega) (by simp) hbx0).trans (World.alloc_heap_new wo _)
        have hown3 := town_behind hown hT (Nat.le_trans HA.out.n hbg) hlt hdg
        have HI := Lib.hid hinv
        have HT := Lib.hid hT
        have hB3 : W.heap.size ≤ W3.heap.size := Nat.le_trans HA.out.b hT.size
        have hdg3 : ¬ D' g := fun hd => (hT.own g hd).elim hdg (fun h => by omega)
        have hM3 : TMid n₀ W.heap.size k' J p st D' q kb ko len cp wo.heap.size len (.slice (some ⟨g, 0, none⟩) st.length cap) W3 := by
          refine ⟨?_, hinv, fun b hb => (hT.own b hb).elim (fun h => Nat.lt_of_lt_of_le (HA.out.lt b h) hT.size) (fun h => h.2), fun g' e => by cases e; exact hdg3, hB3, hkc, hbox, fun e => by simp [Value.ownBlock] at e; omega⟩
          rw [List.drop_of_length_le (by rw [length_lkids]; exact Nat.le_refl _), Nat.sub_self, Nat.add_zero, List.nil_append]; exact hown3
        have HM3 := Lib.hid hM3
        have hlen : len ≤ maxLen := by unfold maxLen; omega
        unfold maxLen at hlen
        have HP := Lib.hid hp
        have bx0 : W3.cell? ⟨wo.heap.size, 0, none⟩ = some (.int .i64 p.1) := by simp [World.cell?, hbox]
        have bx1 : W3.cell? ⟨wo.heap.size, 1, none⟩ = some (.pointer (some ⟨p.2.1, p.2.2, none⟩)) := by simp [World.cell?, hbox]
        clear hown hinv hT hT0 hp hown3 hM3 hbox hbx0
        gi_wp2
        gi_loopw [3, 6] (fun v i wx => ∃ j : Nat, j ≤ len ∧ i = .int .i64 ((j : Int) - 1) ∧ TMid n₀ W.heap.size k' J p st D' q kb ko len cp wo.heap.size j v wx) (fun _ i _ => (intOf i + 1).toNat)
        case atStart => exact ⟨len, Nat.le_refl _, rfl, HM3.out⟩
        case round =>
          obtain ⟨j, hj, rfl, hmid⟩ := hrel
          obtain ⟨a, cap1, rfl⟩ := hmid.value
          have hcl := hmid.cell
          have hown1 := hmid.own
          have hsz := hmid.b
          have y0 : wr.cell? ⟨wo.heap.size, 0, none⟩ = some (.int .i64 p.1) := by simp [World.cell?, hmid.box]
          have y1 : wr.cell? ⟨wo.heap.size, 1, none⟩ = some (.pointer (some ⟨p.2.1, p.2.2, none⟩)) := by simp [World.cell?, hmid.box]
          by_cases hj0 : j = 0
          · subst hj0
            have HQ := Lib.hid hmid
            clear hmid
            gi_wp2
            go_roundw
            case rel => exact ⟨k', HQ.out.done HA.out.n hsm2⟩
            case measure => rw [← hM.out]; exact Nat.lt_of_le_of_lt (least_le (HQ.out.done HA.out.n hsm2)) hk'
          · obtain ⟨j', rfl⟩ : ∃ j', j = j' + 1 := ⟨j - 1, by omega⟩
            obtain rfl := hq (by omega)
            have HQ := Lib.hid hmid
            have hj1 : (0 : Int) ≤ (j' : Int) := by omega
            have hj2 : (j' : Int) < len := by omega
            have hj3 : ((j' : Int)).toNat = j' := by omega
            have hlw : IntKind.i64.wrap ((p.1 : Int) + 1) = (p.1 : Int) + 1 := i64_one hlv
            have hk1 := cells_new wr.drew [.int .i64 ((p.1 : Int) + 1), .pointer (some ⟨kb, ko + j' * 10, none⟩)] 116
            obtain ⟨v', w5, hrun, hown2, hgrow, _, hat⟩ := run_append_own_at (P := Try.prog) (w := wr.drew.alloc (.cells #[.int .i64 ((p.1 : Int) + 1), .pointer (some ⟨kb, ko + j' * 10, none⟩)] 116)) W.heap.size 117 117 116 i0 (.agg #[.int .i64 0, .pointer none]) 2 16 Try.underlying117 hi hz0 hz1 hz2 (by decide) (by decide) (.slice a (st.length + (len - (j' + 1))) cap1) (st.length + (len - (j' + 1))) _ (hown1.drew.alloc _) ⟨wr.heap.size, 0, none⟩ 1 1 [.int .i64 ((p.1 : Int) + 1), .pointer (some ⟨kb, ko + j' * 10, none⟩)] rfl hk1 (by simp [Value.oneCell']) (by unfold maxLen; omega) (by omega) (by simp; omega)
            obtain ⟨a5, cp5, rfl⟩ := own_value hown2
            have HRUN : Hid ((Builtin.append_ #[117, 117] 117 #[.slice a (st.length + (len - (j' + 1))) cap1, .slice (some ⟨wr.heap.size, 0, none⟩) 1 1]).run Try.prog (wr.alloc (.cells #[.int .i64 ((p.1 : Int) + 1), .pointer (some ⟨kb, ko + j' * 10, none⟩)] 116)).drew = .ok (.slice a5 (st.length + (len - (j' + 1)) + 1) cp5) w5) := Lib.hid hrun
            have HSTEP := Lib.hid (TMid.step (tmp := (.cells #[.int .i64 ((p.1 : Int) + 1), .pointer (some ⟨kb, ko + j' * 10, none⟩)] 116)) hJ HA.out.n HP.out (hmid.drew hJ) (by omega) hown2 hgrow hat)
            clear hown2 hgrow hat hrun hk1 hown1 hmid hj0 HQ
            gi_wp2
            refine wpIn_once (a0 := { tmps := #[.func (.yield l) #[] #[], .pointer (some ⟨Bn, 0, none⟩), undef, .slice a5 (st.length + (len - (j' + 1)) + 1) cp5, .int .i64 st.length, .pointer (some ⟨wo.heap.size, 0, none⟩), .int .i64 j', .pointer (some ⟨root.1, root.2, none⟩), .agg #[.int .i64 1, .pointer (some ⟨root.1, root.2, none⟩)], .slice (some ⟨W.heap.size, 0, none⟩) 1 1, .slice (some ⟨g, 0, none⟩) (st.length + 1) cap, .int .i64 ((st.length : Int) + 1), .bool true, .slice (some ⟨g, 0, none⟩) (st.length + 1) cap, .int .i64 ((st.length : Int) + 1), .int .i64 st.length, .slice (some ⟨g, 0, none⟩) (st.length + 1) cap, .int .i64 st.length, .pointer (some ⟨g, st.length * 2, none⟩), .agg #[.int .i64 p.1, .pointer (some ⟨p.2.1, p.2.2, none⟩)], .slice (some ⟨g, 0, none⟩) (st.length + 1) cap, .int .i64 st.length, .slice (some ⟨g, 0, none⟩) st.length cap, .func (.yield l) #[] #[], .pointer (some ⟨wo.heap.size, 0, none⟩), .int .i64 p.1, .pointer (some ⟨wo.heap.size, 1, none⟩), .pointer (some ⟨p.2.1, p.2.2, none⟩), .bool true, .bool false, .pointer (some ⟨wo.heap.size, 1, none⟩), .pointer (some ⟨p.2.1, p.2.2, none⟩), .pointer (some ⟨p.2.1, p.2.2, none⟩), .pointer (some ⟨p.2.1, p.2.2 + 9, none⟩), .slice (some ⟨kb, ko, none⟩) len cp, .int .i64 len, .int .i64 ((len : Int) - 1), .int .i64 j', .bool true, u39, u40, .slice a (st.length + (len - (j' + 1))) cap1, .pointer (some ⟨wo.heap.size, 0, none⟩), .int .i64 p.1, .int .i64 ((p.1 : Int) + 1), .pointer (some ⟨wo.heap.size, 1, none⟩), .pointer (some ⟨p.2.1, p.2.2, none⟩), .pointer (some ⟨p.2.1, p.2.2, none⟩), .pointer (some ⟨p.2.1, p.2.2 + 9, none⟩), .slice (some ⟨kb, ko, none⟩) len cp, .int .i64 j', .pointer (some ⟨kb, ko + j' * 10, none⟩), .agg #[.int .i64 ((p.1 : Int) + 1), .pointer (some ⟨kb, ko + j' * 10, none⟩)], .slice (some ⟨wr.heap.size, 0, none⟩) 1 1, .slice a5 (st.length + (len - (j' + 1)) + 1) cp5], defers := [] }) (w0 := w5) ?once3 ?once4
            case once3 =>
              refine wpIn_region_any (by kernel_rfl) ?_
              refine wpAnyIn_take (i := 0) (v := ?_) hro rfl (by kernel_rfl) (by kernel_rfl) (by kernel_rfl) (fun _ _ _ h => nomatch h.1) ⟨Or.inl ⟨by rfl, ?_⟩, fun _ => rfl⟩ ?_
              rotate_left
              · (intro w; go_simp; try with_reducible rfl)
              refine wpAnyIn_take (i := 1) (v := ?_) hro rfl (by kernel_rfl) (by kernel_rfl) (by kernel_rfl) (fun _ _ _ h => nomatch h.1) ⟨Or.inl ⟨by rfl, ?_⟩, fun _ => rfl⟩ ?_
              rotate_left
              · (intro w; go_simp; try with_reducible rfl)
              refine wpAnyIn_take (i := 4) (v := ?_) hro rfl (by kernel_rfl) (by kernel_rfl) (by kernel_rfl) (fun _ _ _ h => nomatch h.1) ⟨Or.inl ⟨by rfl, ?_⟩, fun _ => rfl⟩ ?_
              rotate_left
              · (intro w; go_simp; try with_reducible rfl)
              refine wpAnyIn_take (i := 9) (v := ?_) hro rfl (by kernel_rfl) (by kernel_rfl) (by kernel_rfl) (fun _ _ _ h => nomatch h.1) ⟨Or.inl ⟨by rfl, ?_⟩, fun _ => rfl⟩ ?_
              rotate_left
              · (intro w; go_simp; try with_reducible rfl)
              refine wpAnyIn_ready (rs := [2, 5]) (by kernel_rfl) (by simp) (AllReadyIn.cons rfl (fun K hK => ?_) (AllReadyIn.cons rfl (fun K hK => ?_) AllReadyIn.nil))
              · (go_simp; refine hK _ _ ?_; clear hK K)
                refine wpAnyIn_take (i := 3) (v := ?_) hro rfl (by kernel_rfl) (by kernel_rfl) (by kernel_rfl) (fun _ _ _ h => nomatch h.1) ⟨Or.inl ⟨by rfl, ?_⟩, fun _ => rfl⟩ ?_
                rotate_left
                · (intro w; go_simp; try with_reducible rfl)
                refine wpAnyIn_ready (rs := [5]) (by kernel_rfl) (by simp) (AllReadyIn.cons rfl (fun K hK => ?_) AllReadyIn.nil)
                (go_simp; refine hK _ _ ?_; clear hK K)
                refine wpAnyIn_take (i := 6) (v := ?_) hro rfl (by kernel_rfl) (by kernel_rfl) (by kernel_rfl) (fun _ _ _ h => nomatch h.1) ⟨Or.inl ⟨by rfl, ?_⟩, fun _ => rfl⟩ ?_
                rotate_left
                · (intro w; go_simp; try with_reducible rfl)
                refine wpAnyIn_take (i := 7) (v := ?_) hro rfl (by kernel_rfl) (by kernel_rfl) (by kernel_rfl) (fun _ _ _ h => nomatch h.1) ⟨Or.inl ⟨by rfl, ?_⟩, fun _ => rfl⟩ ?_
                rotate_left
                · (intro w; go_simp; try with_reducible rfl)
                refine wpAnyIn_ready (rs := [8]) (by kernel_rfl) (by simp) (AllReadyIn.cons rfl (fun K hK => ?_) AllReadyIn.nil)
                (go_simp; refine hK _ _ ?_; clear hK K)
                refine wpAnyIn_take (i := 10) (v := ?_) hro rfl (by kernel_rfl) (by kernel_rfl) (by kernel_rfl) (fun _ _ _ h => nomatch h.1) ⟨Or.inl ⟨by rfl, ?_⟩, fun _ => rfl⟩ ?_
                rotate_left
                · (intro w; go_simp; try with_reducible rfl)
                refine wpAnyIn_take (i := 11) (v := ?_) hro rfl (by kernel_rfl) (by kernel_rfl) (by kernel_rfl) (fun _ _ _ h => nomatch h.1) ⟨Or.inl ⟨by rfl, ?_⟩, fun _ => rfl⟩ ?_
                rotate_left
                · (intro w; go_simp; try with_reducible rfl)
                refine wpAnyIn_ready (rs := [12]) (by kernel_rfl) (by simp) (AllReadyIn.cons rfl (fun K hK => ?_) AllReadyIn.nil)
                (go_simp; refine hK _ _ ?_; clear hK K)
                refine wpAnyIn_ready (rs := [13]) (by kernel_rfl) (by simp) (AllReadyIn.cons rfl (fun K hK => ?_) AllReadyIn.nil)
                (refine stepIn_append rfl (.tmp 41) (.tmp 53) 117 rfl _ _ rfl rfl _ _ HRUN.out ?_; go_simp; refine hK _ _ ?_; clear hK K)
                refine wpAnyIn_ready (rs := [14]) (by kernel_rfl) (by simp) (AllReadyIn.cons rfl (fun K hK => ?_) AllReadyIn.nil)
                (go_simp; refine hK _ _ ?_; clear hK K)
                refine wpAnyIn_done (by kernel_rfl) ?_ _
                exact ⟨rfl, rfl, rfl⟩
              · (go_simp; refine hK _ _ ?_; clear hK K)
                refine wpAnyIn_take (i := 6) (v := ?_) hro rfl (by kernel_rfl) (by kernel_rfl) (by kernel_rfl) (fun _ _ _ h => nomatch h.1) ⟨Or.inl ⟨by rfl, ?_⟩, fun _ => rfl⟩ ?_
                rotate_left
                · (intro w; go_simp; try with_reducible rfl)
                refine wpAnyIn_take (i := 7) (v := ?_) hro rfl (by kernel_rfl) (by kernel_rfl) (by kernel_rfl) (fun _ _ _ h => nomatch h.1) ⟨Or.inl ⟨by rfl, ?_⟩, fun _ => rfl⟩ ?_
                rotate_left
                · (intro w; go_simp; try with_reducible rfl)
                refine wpAnyIn_ready (rs := [2, 8]) (by kernel_rfl) (by simp) (AllReadyIn.cons rfl (fun K hK => ?_) (AllReadyIn.cons rfl (fun K hK => ?_) AllReadyIn.nil))
                · (go_simp; refine hK _ _ ?_; clear hK K)
                  refine wpAnyIn_take (i := 3) (v := ?_) hro rfl (by kernel_rfl) (by kernel_rfl) (by kernel_rfl) (fun _ _ _ h => nomatch h.1) ⟨Or.inl ⟨by rfl, ?_⟩, fun _ => rfl⟩ ?_
                  rotate_left
                  · (intro w; go_simp; try with_reducible rfl)
                  refine wpAnyIn_ready (rs := [8]) (by kernel_rfl) (by simp) (AllReadyIn.cons rfl (fun K hK => ?_) AllReadyIn.nil)
                  (go_simp; refine hK _ _ ?_; clear hK K)
                  refine wpAnyIn_take (i := 10) (v := ?_) hro rfl (by kernel_rfl) (by kernel_rfl) (by kernel_rfl) (fun _ _ _ h => nomatch h.1) ⟨Or.inl ⟨by rfl, ?_⟩, fun _ => rfl⟩ ?_
                  rotate_left
                  · (intro w; go_simp; try with_reducible rfl)
                  refine wpAnyIn_take (i := 11) (v := ?_) hro rfl (by kernel_rfl) (by kernel_rfl) (by kernel_rfl) (fun _ _ _ h => nomatch h.1) ⟨Or.inl ⟨by rfl, ?_⟩, fun _ => rfl⟩ ?_
                  rotate_left
                  · (intro w; go_simp; try with_reducible rfl)
                  refine wpAnyIn_ready (rs := [12]) (by kernel_rfl) (by simp) (AllReadyIn.cons rfl (fun K hK => ?_) AllReadyIn.nil)
                  (go_simp; refine hK _ _ ?_; clear hK K)
                  refine wpAnyIn_ready (rs := [13]) (by kernel_rfl) (by simp) (AllReadyIn.cons rfl (fun K hK => ?_) AllReadyIn.nil)
                  (refine stepIn_append rfl (.tmp 41) (.tmp 53) 117 rfl _ _ rfl rfl _ _ HRUN.out ?_; go_simp; refine hK _ _ ?_; clear hK K)
                  refine wpAnyIn_ready (rs := [14]) (by kernel_rfl) (by simp) (AllReadyIn.cons rfl (fun K hK => ?_) AllReadyIn.nil)
                  (go_simp; refine hK _ _ ?_; clear hK K)
                  refine wpAnyIn_done (by kernel_rfl) ?_ _
                  exact ⟨rfl, rfl, rfl⟩
                · (go_simp; refine hK _ _ ?_; clear hK K)
                  refine wpAnyIn_take (i := 10) (v := ?_) hro rfl (by kernel_rfl) (by kernel_rfl) (by kernel_rfl) (fun _ _ _ h => nomatch h.1) ⟨Or.inl ⟨by rfl, ?_⟩, fun _ => rfl⟩ ?_
                  rotate_left
                  · (intro w; go_simp; try with_reducible rfl)
                  refine wpAnyIn_ready (rs := [2]) (by kernel_rfl) (by simp) (AllReadyIn.cons rfl (fun K hK => ?_) AllReadyIn.nil)
                  (go_simp; refine hK _ _ ?_; clear hK K)
                  refine wpAnyIn_take (i := 3) (v := ?_) hro rfl (by kernel_rfl) (by kernel_rfl) (by kernel_rfl) (fun _ _ _ h => nomatch h.1) ⟨Or.inl ⟨by rfl, ?_⟩, fun _ => rfl⟩ ?_
                  rotate_left
                  · (intro w; go_simp; try with_reducible rfl)
                  refine wpAnyIn_take (i := 11) (v := ?_) hro rfl (by kernel_rfl) (by kernel_rfl) (by kernel_rfl) (fun _ _ _ h => nomatch h.1) ⟨Or.inl ⟨by rfl, ?_⟩, fun _ => rfl⟩ ?_
                  rotate_left
                  · (intro w; go_simp; try with_reducible rfl)
                  refine wpAnyIn_ready (rs := [12]) (by kernel_rfl) (by simp) (AllReadyIn.cons rfl (fun K hK => ?_) AllReadyIn.nil)
                  (go_simp; refine hK _ _ ?_; clear hK K)
                  refine wpAnyIn_ready (rs := [13]) (by kernel_rfl) (by simp) (AllReadyIn.cons rfl (fun K hK => ?_) AllReadyIn.nil)
                  (refine stepIn_append rfl (.tmp 41) (.tmp 53) 117 rfl _ _ rfl rfl _ _ HRUN.out ?_; go_simp; refine hK _ _ ?_; clear hK K)
                  refine wpAnyIn_ready (rs := [14]) (by kernel_rfl) (by simp) (AllReadyIn.cons rfl (fun K hK => ?_) AllReadyIn.nil)
                  (go_simp; refine hK _ _ ?_; clear hK K)
                  refine wpAnyIn_done (by kernel_rfl) ?_ _
                  exact ⟨rfl, rfl, rfl⟩
            gi_wp2
            go_roundw
            case rel => exact ⟨j', by omega, by go_num, HSTEP.out⟩
            case measure => simp [intOf]
      · gi_wp2
        refine bodyPost_ret (results_none rfl _ _ _) rfl ?_
        exact ⟨⟨_, rfl⟩, .inr hx⟩
end Go.Proofs.Ytcjhgefkbnbmnaa
