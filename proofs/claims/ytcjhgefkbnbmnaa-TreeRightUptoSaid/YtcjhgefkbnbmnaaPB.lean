/- The iterator over a tree's parts. -/
import Derived.RangeFuncLeaves
import Derived.RangeFuncCalls
import Derived.Shelf.Abstract
import Derived.WalkKit
import Derived.OwnWalkIn
import Derived.TacticsInMore
import Derived.LoopNIn
import Derived.LoopIn
import Derived.Outline
import Derived.Maps.OwnIn
import Derived.Maps.AppendAt
import Derived.RangeFuncBox
import Derived.IntWalk
import Derived.Test.YtcjhgefkbnbmnaaPA
import Derived.RangeFuncNested
namespace Go.Proofs.Ytcjhgefkbnbmnaa
open Go.RowKit Go.Shelf
set_option linter.unusedVariables false
attribute [local go_sem] Oper.semAt_some

/-- What a round of p that goes on leaves behind. -/
def Next (n₀ k : Nat) (p : Pl) (st : List Pl) (J : Nat → List Pl → (Nat → Prop) → World → Prop) (D : Nat → Prop) (W W' : World) : Prop :=
  ∃ k' q b o len cap D', k' < k ∧ W'.cell? ⟨p.1, p.2 + 3, none⟩ = some (.slice q len cap) ∧ (0 < len → q = some ⟨b, o, none⟩) ∧ len ≤ cap ∧ len + st.length ≤ 1099511627776 ∧
    J k' (kidsP b o len ++ st) D' W' ∧ Tch n₀ D D' W W' ∧ (p.1 < n₀ ∨ D' p.1)

/-- J abides what turns neither blocks below n₀ nor those that it owns. -/
def AbT (n₀ : Nat) (J : Nat → List Pl → (Nat → Prop) → World → Prop) : Prop :=
  ∀ k st D A B row, J k st D A → A.grownBy B row → (∀ r, row = some r → n₀ ≤ r ∧ ¬ D r) → J k st D B

/-- The iterator's own state. -/
structure Ahead (n₀ B0 : Nat) (J : Nat → List Pl → (Nat → Prop) → World → Prop) (k : Nat) (st : List Pl) (D : Nat → Prop) (v : Value) (wr : World) : Prop where
  own : wr.ownsRow B0 64 1 v st.length (st.reverse.map Pl.ptr)
  inv : J k st D wr
  lt : ∀ b, D b → b < wr.heap.size
  ap : ∀ g, v.ownBlock = some g → ¬ D g
  n : n₀ ≤ B0
  b : B0 ≤ wr.heap.size
  small : st.length ≤ 1099511627776
def AheadX (n₀ B0 : Nat) (J : Nat → List Pl → (Nat → Prop) → World → Prop) (k : Nat) (v : Value) (wr : World) : Prop := ∃ st D, Ahead n₀ B0 J k st D v wr

theorem info56 : (Try.prog.info? 64).map (fun i => (i.zero, i.size, i.bytes)) = some (some (.pointer none), 1, 8) := by kernel_rfl

theorem Ahead.start {n₀ B0 : Nat} {J : Nat → List Pl → (Nat → Prop) → World → Prop} {k : Nat} {D : Nat → Prop} {W : World} {root : Pl} (hJ : AbT n₀ J) (hB : B0 = W.heap.size) (hn : n₀ ≤ W.heap.size)
    (h0 : J k [root] D W) (hD : ∀ b, D b → b < W.heap.size) : AheadX n₀ B0 J k (.slice (some ⟨W.heap.size, 0, none⟩) 1 1) (W.alloc (.cells #[root.ptr] 64)) := by
  subst hB
  refine ⟨[root], D, ⟨rfl, .inr ⟨_, 1, #[root.ptr], rfl, Nat.le_refl _, World.alloc_heap_new W _, Nat.le_refl _, by unfold maxLen; omega, rfl, rfl⟩⟩, hJ _ _ _ _ _ none h0 (World.grownBy_alloc W _ none) (fun r e => by cases e), fun b hb => ?_, fun g hg hd => ?_, hn, by simp, by simp⟩
  · have := hD b hb; simp; omega
  · simp [Value.ownBlock] at hg; subst hg; have := hD _ hd; omega

theorem Ahead.value {n₀ B0 : Nat} {J : Nat → List Pl → (Nat → Prop) → World → Prop} {k : Nat} {st : List Pl} {D : Nat → Prop} {v : Value} {wr : World} (h : Ahead n₀ B0 J k st D v wr) :
    ∃ a cap, v = .slice a st.length cap ∧ st.length ≤ cap := by
  rcases h.own.2 with ⟨rfl, h0⟩ | ⟨g, cap, cur, rfl, _, _, hc, _⟩
  · exact ⟨none, 0, by rw [h0], by omega⟩
  · exact ⟨_, cap, rfl, hc⟩

/-- The last one of a list that isn't empty. -/
theorem Ahead.top {n₀ B0 : Nat} {J : Nat → List Pl → (Nat → Prop) → World → Prop} {k : Nat} {p : Pl} {st : List Pl} {D : Nat → Prop} {v : Value} {wr : World} (h : Ahead n₀ B0 J k (p :: st) D v wr) :
    ∃ g cap, v = .slice (some ⟨g, 0, none⟩) (st.length + 1) cap ∧ st.length + 1 ≤ cap ∧ wr.cell? ⟨g, st.length, none⟩ = some (.pointer (some ⟨p.1, p.2, none⟩)) ∧
      wr.ownsRow B0 64 1 (.slice (some ⟨g, 0, none⟩) st.length cap) st.length (st.reverse.map Pl.ptr) ∧ g < wr.heap.size ∧ B0 ≤ g ∧ ¬ D g := by
  obtain ⟨hl, h2⟩ := h.own
  rcases h2 with ⟨_, h0⟩ | ⟨g, cap, cur, rfl, hb, hg, hc, hm, hs, ht⟩
  · simp at h0
  · have hc' : st.length + 1 ≤ cap := hc
    have hlt : g < wr.heap.size := (Array.getElem?_eq_some_iff.1 hg).1
    have ht' : cur.toList.take (st.length + 1) = st.reverse.map Pl.ptr ++ [p.ptr] := by simpa using ht
    refine ⟨g, cap, rfl, hc', ?_, ⟨by simp, .inr ⟨g, cap, cur, rfl, hb, hg, by omega, hm, hs, ?_⟩⟩, hlt, hb, h.ap g rfl⟩
    · have e1 : cur.toList[st.length]? = some p.ptr := by
        have := congrArg (fun l => l[st.length]?) ht'
        simp only [List.getElem?_take, List.getElem?_append_right (show (st.reverse.map Pl.ptr).length ≤ st.length by simp)] at this
        simpa using this
      simp only [World.cell?, hg]
      simpa [Pl.ptr] using e1
    · have := congrArg (List.take st.length) ht'
      rw [List.take_take, Nat.min_eq_left (by omega), List.take_append_of_le_length (by simp), List.take_of_length_le (l := st.reverse.map Pl.ptr) (by simp)] at this
      rw [Nat.mul_one]; exact this

/-- Behind a round the list is as it was. -/
theorem own_behind {n₀ B0 : Nat} {D D' : Nat → Prop} {W W' : World} {g len cap : Nat} {xs : List Value} (h : W.ownsRow B0 64 1 (.slice (some ⟨g, 0, none⟩) len cap) len xs) (ht : Tch n₀ D D' W W') (hn : n₀ ≤ g) (hlt : g < W.heap.size) (hd : ¬ D g) :
    W'.ownsRow B0 64 1 (.slice (some ⟨g, 0, none⟩) len cap) len xs := by
  obtain ⟨hl, h2⟩ := h
  rcases h2 with ⟨h0, _⟩ | ⟨g', cap', cur, e, hb, hg, hc, hm, hs, hx⟩
  · cases h0
  · cases e
    exact ⟨hl, .inr ⟨g, cap, cur, rfl, hb, (ht.same g hn hlt hd).trans hg, hc, hm, hs, hx⟩⟩


/-- While p's Kids are laid on the list: all from the j-th on lie there. -/
structure Mid (n₀ B0 k' : Nat) (J : Nat → List Pl → (Nat → Prop) → World → Prop) (p : Pl) (st : List Pl) (D' : Nat → Prop) (q : Option Addr) (kb ko len cp j : Nat) (v : Value) (wx : World) : Prop where
  own : wx.ownsRow B0 64 1 v (st.length + (len - j)) (((kidsP kb ko len).drop j ++ st).reverse.map Pl.ptr)
  inv : J k' (kidsP kb ko len ++ st) D' wx
  lt : ∀ b, D' b → b < wx.heap.size
  ap : ∀ g, v.ownBlock = some g → ¬ D' g
  b : B0 ≤ wx.heap.size
  cell : wx.cell? ⟨p.1, p.2 + 3, none⟩ = some (.slice q len cp)

theorem Mid.step {n₀ B0 k' : Nat} {J : Nat → List Pl → (Nat → Prop) → World → Prop} {p : Pl} {st : List Pl} {D' : Nat → Prop} {q : Option Addr} {kb ko len cp j : Nat} {v v' : Value} {wx w1 : World} {tmp : Obj}
    (hJ : AbT n₀ J) (hn : n₀ ≤ B0) (hp : p.1 < n₀ ∨ D' p.1) (h : Mid n₀ B0 k' J p st D' q kb ko len cp (j + 1) v wx) (hj : j < len)
    (hown : w1.ownsRow B0 64 1 v' (st.length + (len - (j + 1)) + 1) (((((kidsP kb ko len).drop (j + 1) ++ st).reverse.map Pl.ptr)) ++ [.pointer (some ⟨kb, ko + j * 4, none⟩)])) (hg : (wx.alloc tmp).grownBy w1 v.ownBlock)
    (hv : v'.ownBlock = v.ownBlock ∨ v'.ownBlock = some (wx.alloc tmp).heap.size) : Mid n₀ B0 k' J p st D' q kb ko len cp j v' w1 := by
  have hr : ∀ r, v.ownBlock = some r → n₀ ≤ r ∧ ¬ D' r := fun r e => ⟨Nat.le_trans hn (h.own.lt r e).1, h.ap r e⟩
  have hs : wx.heap.size ≤ w1.heap.size := by have := hg.size; simp at this; omega
  refine ⟨?_, hJ _ _ _ _ _ _ (hJ _ _ _ _ _ none h.inv (World.grownBy_alloc wx tmp none) (fun r e => by cases e)) hg hr, fun b hb => Nat.lt_of_lt_of_le (h.lt b hb) hs, fun g e hd => ?_, Nat.le_trans h.b hs, ?_⟩
  · have e1 : st.length + (len - j) = st.length + (len - (j + 1)) + 1 := by omega
    rw [kidsP_drop _ _ _ _ hj, e1]
    simpa [Pl.ptr] using hown
  · rcases hv with h1 | h1
    · exact h.ap g (h1 ▸ e) hd
    · rw [h1] at e; cases e; have := h.lt _ hd; simp at this; omega
  · refine hg.cell (((World.grownBy_alloc wx tmp none).cell h.cell (by simp))) fun e => ?_
    have := hr p.1 e.symm
    exact hp.elim (fun h => by omega) this.2

theorem Mid.value {n₀ B0 k' : Nat} {J : Nat → List Pl → (Nat → Prop) → World → Prop} {p : Pl} {st : List Pl} {D' : Nat → Prop} {q : Option Addr} {kb ko len cp j : Nat} {v : Value} {wx : World} (h : Mid n₀ B0 k' J p st D' q kb ko len cp j v wx) :
    ∃ a cap, v = .slice a (st.length + (len - j)) cap := by
  rcases h.own.2 with ⟨rfl, h0⟩ | ⟨g, cap, cur, rfl, _, _, hc, _⟩
  · exact ⟨none, 0, by rw [h0]⟩
  · exact ⟨_, cap, rfl⟩
theorem Mid.done {n₀ B0 k' : Nat} {J : Nat → List Pl → (Nat → Prop) → World → Prop} {p : Pl} {st : List Pl} {D' : Nat → Prop} {q : Option Addr} {kb ko len cp : Nat} {v : Value} {wx : World} (h : Mid n₀ B0 k' J p st D' q kb ko len cp 0 v wx) (hn : n₀ ≤ B0)
    (hs : len + st.length ≤ 1099511627776) : AheadX n₀ B0 J k' v wx := by
  refine ⟨_, D', ?_, h.inv, h.lt, h.ap, hn, h.b, ?_⟩
  · have := h.own
    rw [List.drop_zero] at this
    rwa [List.length_append, length_kidsP, show len + st.length = st.length + (len - 0) by omega]
  · rw [List.length_append, length_kidsP]; exact hs

theorem AheadX.least {n₀ B0 : Nat} {J : Nat → List Pl → (Nat → Prop) → World → Prop} {k : Nat} {v : Value} {wr : World} (h : AheadX n₀ B0 J k v wr) :
    ∃ m st D, m = least (fun k => AheadX n₀ B0 J k v wr) ∧ Ahead n₀ B0 J m st D v wr :=
  have h2 := least_spec (p := fun k => AheadX n₀ B0 J k v wr) h
  h2.elim fun st h3 => h3.elim fun D h4 => ⟨_, st, D, rfl, h4⟩

set_option maxRecDepth 100000 in
set_option maxHeartbeats 1000000 in
/-- **'parts': FOR EVERY LOOP BODY: a round at p goes on with p's Kids, as they are behind it, ahead of what was still to come.** -/
theorem parts1_in (F : Fence) (n : Nat) (h66 : F.fn 88) (hro : F.round = none) (hn : 1 ≤ n) (l Bn n₀ : Nat) (J : Nat → List Pl → (Nat → Prop) → World → Prop) (Jx : World → Prop) (hJ : AbT n₀ J)
    (hY : ∀ k p st D W, n₀ ≤ W.heap.size → J k (p :: st) D W → YieldAt F (n - 1) Try.prog l #[.pointer (some ⟨p.1, p.2, none⟩)] W fun e W' =>
      (e = .returned (.bool true) ∧ Next n₀ k p st J D W W') ∨ (e = .returned (.bool false) ∧ Jx W'))
    (W : World) (hW : n₀ ≤ W.heap.size) (root : Pl) (hBn : W.cell? ⟨Bn, 0, none⟩ = some (.pointer (some ⟨root.1, root.2, none⟩))) (k : Nat) (D : Nat → Prop) (h0 : J k [root] D W) (hD : ∀ b, D b → b < W.heap.size) :
    CallsIn F n Try.prog 88 #[.func (.yield l) #[] #[], .pointer (some ⟨Bn, 0, none⟩)] W fun e W' => (∃ v, e = .returned v) ∧ ((∃ k D, J k [] D W') ∨ Jx W') := by
  have hS := Lib.hid (Ahead.start hJ rfl hW h0 hD)
  obtain ⟨i0, hi, hz0, hz1, hz2⟩ := info_parts info56
  clear h0 hD
  refine callsIn_of_wp Try.func88 rfl h66 ?_ hro
  simp only [Try.ntmps88, List.size_toArray, List.length_cons, List.length_nil, Nat.reduceAdd, Nat.reduceSub, Array.replicate_succ, Array.replicate_zero, List.push_toArray, List.append_toArray, List.nil_append, List.cons_append]
  gi_wp2
  gi_loopw [3] (fun v wr => ∃ k, AheadX n₀ W.heap.size J k v wr) (fun v wr => least fun k => AheadX n₀ W.heap.size J k v wr)
  case atStart => exact ⟨k, hS.out⟩
  case round =>
    obtain ⟨wo, rfl⟩ : ∃ wo : World, wo = wr := ⟨_, rfl⟩
    obtain ⟨k1, hk1⟩ := hrel
    obtain ⟨m, st, D, hm, hA⟩ := hk1.least
    have hM := Lib.hid hm
    clear hm hk1
    cases st with
    | nil =>
      obtain ⟨a, cap, rfl, hc⟩ := hA.value
      have HA := Lib.hid hA.inv
      clear hA
      simp only [List.length_nil] at hc
      gi_wp2
      go_end0
      exact ⟨⟨_, rfl⟩, .inl ⟨m, D, HA.out⟩⟩
    | cons p st =>
      obtain ⟨g, cap, rfl, hc, hcell, hown, hlt, hbg, hdg⟩ := hA.top
      have hsm : st.length + 1 ≤ 1099511627776 := hA.small
      obtain ⟨fn, tmps, assign, body, hy, hR⟩ := hY m p st D wo (Nat.le_trans hA.n hA.b) hA.inv
      have HA := Lib.hid hA
      clear hA
      have hpos : 0 < st.length + 1 := by omega
      have hlen : (p :: st).length = st.length + 1 := rfl
      rw [hlen] at *
      clear hlen
      gi_wp2
      refine hR.mono ?_
      clear hR hy hcell
      rintro e W3 (⟨rfl, hN⟩ | ⟨rfl, hx⟩)
      · obtain ⟨k', q, kb, ko, len, cp, D', hk', hkc, hq, hlc, hsm2, hinv, hT, hp⟩ := hN
        have hown3 := own_behind hown hT (Nat.le_trans HA.out.n hbg) hlt hdg
        have HI := Lib.hid hinv
        have HT := Lib.hid hT
        have hB3 : W.heap.size ≤ W3.heap.size := Nat.le_trans HA.out.b hT.size
        have hdg3 : ¬ D' g := fun hd => (hT.own g hd).elim hdg (fun h => by omega)
        have hM3 : Mid n₀ W.heap.size k' J p st D' q kb ko len cp len (.slice (some ⟨g, 0, none⟩) st.length cap) W3 := by
          refine ⟨?_, hinv, fun b hb => (hT.own b hb).elim (fun h => Nat.lt_of_lt_of_le (HA.out.lt b h) hT.size) (fun h => h.2), fun g' e => by cases e; exact hdg3, hB3, hkc⟩
          rw [List.drop_of_length_le (by rw [length_kidsP]; exact Nat.le_refl _), Nat.sub_self, Nat.add_zero, List.nil_append]; exact hown3
        have HM3 := Lib.hid hM3
        have hlen : len ≤ maxLen := by unfold maxLen; omega
        unfold maxLen at hlen
        have HP := Lib.hid hp
        have hpg : p.1 ≠ g := fun e => hp.elim (fun h => by have := HA.out.n; omega) (fun h => hdg3 (e ▸ h))
        have hD3 : ∀ b, D' b → b < W3.heap.size := fun b hb => (hT.own b hb).elim (fun h => Nat.lt_of_lt_of_le (HA.out.lt b h) hT.size) (fun h => h.2)
        have HD3 := Lib.hid hD3
        clear hown hinv hT hD3 hp hown3 hM3
        gi_wp2
        gi_loopw [3, 6] (fun v i wx => ∃ j : Nat, j ≤ len ∧ i = .int .i64 ((j : Int) - 1) ∧ Mid n₀ W.heap.size k' J p st D' q kb ko len cp j v wx) (fun _ i _ => (intOf i + 1).toNat)
        case atStart => exact ⟨len, Nat.le_refl _, rfl, HM3.out⟩
        case round =>
          obtain ⟨j, hj, rfl, hmid⟩ := hrel
          obtain ⟨a, cap1, rfl⟩ := hmid.value
          have hcl := hmid.cell
          have hown1 := hmid.own
          have hsz := hmid.b
          by_cases hj0 : j = 0
          · subst hj0
            have HQ := Lib.hid hmid
            clear hmid
            gi_wp2
            go_roundw
            case rel => exact ⟨k', HQ.out.done HA.out.n hsm2⟩
            case measure => rw [← hM.out]; exact Nat.lt_of_le_of_lt (least_le (HQ.out.done HA.out.n hsm2)) hk'
          · obtain ⟨j', rfl⟩ : ∃ j', j = j' + 1 := ⟨j - 1, by omega⟩
            obtain rfl := hq (by omega)
            have HQ := Lib.hid hmid
            clear hmid hj0
            gi_wp2_with (gi_at_builtin; refine wpListIn_append_own_at _ rfl (.tmp 36) (.tmp 43) 69 rfl W.heap.size 64 i0 (.pointer none) 1 8 Try.underlying69 hi hz0 hz1 hz2 rfl (by decide) _ _ _ rfl (hown1.alloc _) ⟨wr.heap.size, 0, none⟩ 1 1 [.pointer (some ⟨kb, ko + j' * 4, none⟩)] rfl rfl (cell_one_new _ _ _) (by simp [Value.oneCell']) (by unfold maxLen; omega) (by omega) (by simp; omega) ?_; intro v' w1 hown2 hgrow _ hat)
            have hstep := HQ.out.step hJ HA.out.n HP.out (by omega) hown2 hgrow hat
            clear hown2 hgrow hat HQ hown1 hcl
            gi_wp2
            go_roundw
            case rel => exact ⟨j', by omega, by go_num, hstep⟩
            case measure => simp [intOf]
      · gi_wp2
        refine bodyPost_ret (results_none rfl _ _ _) rfl ?_
        exact ⟨⟨_, rfl⟩, .inr hx⟩

end Go.Proofs.Ytcjhgefkbnbmnaa

namespace Go.Proofs.Ytcjhgefkbnbmnaa
open Go.RowKit Go.Shelf
set_option linter.unusedVariables false

/-- How the body may be left. -/
def tPost (n₀ : Nat) (I : Nat → List Pl → (Nat → Prop) → World → Prop) (Ix : Code → (Nat → Prop) → World → Prop) (k : Nat) (p : Pl) (st : List Pl) (D : Nat → Prop) (W : World) : Exit → Act → World → Prop
  | .normal, _, W' => Next n₀ k p st I D W W'
  | .ret, _, W' => ∃ D', Tch n₀ D D' W W' ∧ Ix .ret D' W'
  | .exit id, _, W' => ∃ D', Tch n₀ D D' W W' ∧ Ix (.exit id) D' W'
  | .goto t, _, W' => ∃ D', Tch n₀ D D' W W' ∧ Ix (.goto t) D' W'
  | .panic _, _, _ => False
  | .outgrown, _, _ => False

theorem putObj_other {W : World} {l b : Nat} {o : Obj} (h : b ≠ l) : (W.putObj l o).heap[b]? = W.heap[b]? := World.putObj_heap_other h

/-- A step on the loop's own record on both sides of a round. -/
theorem Tch.record {n₀ n₁ l : Nat} {D D' : Nat → Prop} {W W3 : World} {o1 o2 : Obj} (hn : n₀ ≤ n₁) (hl : l < n₁) (h : Tch n₀ D D' (W.putObj l o1) W3) : Tch n₁ D D' W (W3.putObj l o2) :=
  ⟨by have := h.size; simp at this ⊢; exact this,
   fun b hb hlt hd => (putObj_other (by omega)).trans ((h.same b (by omega) (by simpa using hlt) hd).trans (putObj_other (by omega))),
   fun b hb => (h.own b hb).imp id (fun h' => ⟨by simpa using h'.1, by simpa using h'.2⟩), h.keep⟩

theorem grownBy_put (W : World) (l : Nat) (o : Obj) : W.grownBy (W.putObj l o) (some l) := grownBy_putObj' W l o

variable {F : Fence} {n : Nat}

theorem range_parts {g : Operand} {ps : Array Tmp} {assign body : Code} {Q : Exit → Act → World → Prop} {a : Act} {w : World}
    (hro : F.round = none) (hn : 2 ≤ n) {Bn : Nat} (hg : a.eval g = .func (.func 88) #[] #[.pointer (some ⟨Bn, 0, none⟩)]) (h66 : F.fn 88) (root : Pl) (hBn : w.cell? ⟨Bn, 0, none⟩ = some (.pointer (some ⟨root.1, root.2, none⟩))) (hps : ps.size = 1)
    (I : Nat → List Pl → (Nat → Prop) → World → Prop) (Ix : Code → (Nat → Prop) → World → Prop) (hI : AbT w.heap.size I)
    (hIx : ∀ c D A B row, Ix c D A → A.grownBy B row → (∀ r, row = some r → w.heap.size ≤ r ∧ ¬ D r) → Ix c D B) (k : Nat) (h0 : I k [root] (fun _ => False) w) (a₁ : Pl → Act)
    (hassign : ∀ (l : Nat) (p : Pl) (W : World) (K : Act → World → Prop), K (a₁ p) W →
      assign.wpIn (F.inRound l) (n - 1 - 1) Try.prog (Exit.then K (fun _ _ _ => False)) { tmps := (ps.zip #[Value.pointer (some ⟨p.1, p.2, none⟩)]).foldl (fun t (p, v) => t.setIfInBounds p v) a.tmps, defers := [] } W)
    (hbody : ∀ (l k : Nat) (p : Pl) (st : List Pl) (D : Nat → Prop) (W : World), w.heap.size ≤ W.heap.size → (∀ b, D b → b < W.heap.size) → I k (p :: st) D W → body.wpIn (F.inRound l) (n - 1 - 1) Try.prog (tPost w.heap.size I Ix k p st D W) (a₁ p) W)
    (hdone : ∀ (K k : Nat) (D : Nat → Prop) (W : World), w.heap.size ≤ K → ¬ D K → I k [] D W → W.heap[K]? = some (.deferred (some [])) → Q .normal { a with defers := { target := .collected K, args := #[] } :: a.defers } W)
    (hstop : ∀ (K : Nat) (c : Code) (D : Nat → Prop) (W : World), w.heap.size ≤ K → ¬ D K → Ix c D W → W.heap[K]? = some (.deferred (some [])) → c.wpIn F n Try.prog Q { a with defers := { target := .collected K, args := #[] } :: a.defers } W) :
    (Code.rangeFunc g ps assign body).wpIn F n Try.prog Q a w := by
  refine wpIn_rangeFunc ?_
  intro fn hfn
  rw [hro]
  obtain ⟨rec, hrec⟩ : ∃ rec : LoopState → Option Code → Loop, rec = fun st pe => { state := st, pending := pe, fn, tmps := a.tmps, params := ps, assign, body, defers := w.heap.size } := ⟨_, rfl⟩
  obtain ⟨W1, hW1⟩ : ∃ W1, (w.alloc (.deferred (some []))).alloc (.loop (rec .ready none)) = W1 := ⟨_, rfl⟩
  have hz1 : W1.heap.size = w.heap.size + 2 := by rw [← hW1]; simp
  have hL1 : W1.heap[w.heap.size + 1]? = some (.loop (rec .ready none)) := by
    rw [← hW1]; have := World.alloc_heap_new (w.alloc (.deferred (some []))) (.loop (rec .ready none)); rwa [World.size_alloc] at this
  have hK1 : W1.heap[w.heap.size]? = some (.deferred (some [])) := by
    rw [← hW1]; exact (Below.heap_alloc _ _ _ (by simp)).trans (World.alloc_heap_new w _)
  have hI1 : I k [root] (fun _ => False) W1 := by
    rw [← hW1]; exact hI _ _ _ _ _ none (hI _ _ _ _ _ none h0 (World.grownBy_alloc _ _ _) (fun r e => by cases e)) (World.grownBy_alloc _ _ _) (fun r e => by cases e)
  have hc1 : W1.cell? ⟨Bn, 0, none⟩ = some (.pointer (some ⟨root.1, root.2, none⟩)) := by
    rw [← hW1]; exact (World.grownBy_alloc _ _ none).cell ((World.grownBy_alloc _ _ none).cell hBn (by simp)) (by simp)
  refine ⟨w.heap.size + 1, [{ target := .collected w.heap.size, args := #[] }], W1, { target := .fn (.func 88) #[.pointer (some ⟨Bn, 0, none⟩)], args := #[.func (.yield (w.heap.size + 1)) #[] #[]] }, W1, 88,
    #[.func (.yield (w.heap.size + 1)) #[] #[], .pointer (some ⟨Bn, 0, none⟩)], W1, ?_, ?_, ?_, ?_, fun _ => by omega, ?_⟩
  · rw [← hW1, hrec]; exact run_enterLoop_outer _ _ _ _ _
  · simp only [resolve, hg]
    simp [go_sem]
  · intro f' hf'; simp [Target.leads] at hf'; subst hf'; exact h66
  · simp [invoke, go_sem]
  · refine (parts1_in F (n - 1) h66 hro (by omega) (w.heap.size + 1) Bn W1.heap.size
      (fun k st D W => I k st D W ∧ W.heap[w.heap.size + 1]? = some (.loop (rec .ready none)) ∧ W.heap[w.heap.size]? = some (.deferred (some [])) ∧ ¬ D (w.heap.size + 1) ∧ ¬ D w.heap.size ∧ (∀ b, D b → b < W.heap.size))
      (fun W => ∃ c D, Ix c D W ∧ W.heap[w.heap.size + 1]? = some (.loop (rec .done (some c))) ∧ W.heap[w.heap.size]? = some (.deferred (some [])) ∧ ¬ D (w.heap.size + 1) ∧ ¬ D w.heap.size)
      ?_ ?_ W1 (Nat.le_refl _) root hc1 k (fun _ => False) ⟨hI1, hL1, hK1, id, id, fun _ h => h.elim⟩ (fun _ h => h.elim)).mono ?_
    · rintro k st D A B row ⟨hi, hl, hk, hd1, hd2, hd3⟩ hgr hrow
      refine ⟨hI _ _ _ _ _ _ hi hgr (fun r e => ⟨by have := (hrow r e).1; omega, (hrow r e).2⟩), ?_, ?_, hd1, hd2, fun b hb => Nat.lt_of_lt_of_le (hd3 b hb) hgr.size⟩
      · exact (hgr.block _ (Array.getElem?_eq_some_iff.1 hl).1 (fun e => by have := (hrow _ e.symm).1; omega)).trans hl
      · exact (hgr.block _ (Array.getElem?_eq_some_iff.1 hk).1 (fun e => by have := (hrow _ e.symm).1; omega)).trans hk
    · -- ONE ROUND
      rintro k p st D W hWs ⟨hi, hl, hk, hd1, hd2, hd3⟩
      have hlt : w.heap.size + 1 < W.heap.size := (Array.getElem?_eq_some_iff.1 hl).1
      have hy := run_yield (P := Try.prog) (args := #[Value.pointer (some ⟨p.1, p.2, none⟩)]) hl (by rw [hrec]; exact hps.symm)
      rw [hrec] at hy
      refine ⟨fn, _, assign, body, hy, roundIn_of_wpIn hfn (hassign _ p W _ ⟨_, run_beginRound hl (by rw [hrec]), ?_⟩)⟩
      have hl2 : (W.putObj (w.heap.size + 1) (.loop { rec .ready none with state := .busy })).heap[w.heap.size + 1]? = some (.loop { rec .ready none with state := .busy }) := World.putObj_heap_same hlt
      have hk2 : (W.putObj (w.heap.size + 1) (.loop { rec .ready none with state := .busy })).heap[w.heap.size]? = some (.deferred (some [])) := (World.putObj_heap_other (by omega)).trans hk
      refine wpIn_mono (hbody _ k p st D _ (by simp; omega) (fun b hb => by have := hd3 b hb; simpa using this) (hI _ _ _ _ _ _ hi (grownBy_put _ _ _) (fun r e => by cases e; exact ⟨by omega, hd1⟩))) ?_
      have nd : ∀ {D' : Nat → Prop} {W3 : World}, Tch w.heap.size D D' (W.putObj (w.heap.size + 1) (.loop { rec .ready none with state := .busy })) W3 → ¬ D' (w.heap.size + 1) ∧ ¬ D' w.heap.size ∧ ∀ b, D' b → b < W3.heap.size := fun ht =>
        ⟨fun hd => (ht.own _ hd).elim hd1 (fun h => by simp at h; omega), fun hd => (ht.own _ hd).elim hd2 (fun h => by simp at h; omega), fun b hd => (ht.own b hd).elim (fun h => by have := hd3 b h; have := ht.size; simp at this; omega) (fun h => h.2)⟩
      have fin : ∀ (jump : Option Code) (D' : Nat → Prop) (W3 : World), Tch w.heap.size D D' (W.putObj (w.heap.size + 1) (.loop { rec .ready none with state := .busy })) W3 →
          (Instr.endRound (w.heap.size + 1) jump).run Try.prog W3 = .ok (.bool jump.isNone) (W3.putObj (w.heap.size + 1) (.loop (rec (if jump.isNone then .ready else .done) jump))) ∧
          W3.heap[w.heap.size + 1]? = some (.loop { rec .ready none with state := .busy }) ∧
          (W3.putObj (w.heap.size + 1) (.loop (rec (if jump.isNone then .ready else .done) jump))).heap[w.heap.size + 1]? = some (.loop (rec (if jump.isNone then .ready else .done) jump)) ∧
          (W3.putObj (w.heap.size + 1) (.loop (rec (if jump.isNone then .ready else .done) jump))).heap[w.heap.size]? = some (.deferred (some [])) := fun jump D' W3 ht => by
        have hl3 := (ht.same (w.heap.size + 1) (by omega) (by simpa using hlt) hd1).trans hl2
        have hk3 := (ht.same w.heap.size (by omega) (by simp; omega) hd2).trans hk2
        have := run_endRound (P := Try.prog) jump hl3
        rw [hrec] at this ⊢
        exact ⟨this, by rw [hrec] at hl3; exact hl3, World.putObj_heap_same (Array.getElem?_eq_some_iff.1 hl3).1, (World.putObj_heap_other (by omega)).trans hk3⟩
      have stop : ∀ (c : Code) (W3 : World), (∃ D', Tch w.heap.size D D' (W.putObj (w.heap.size + 1) (.loop { rec .ready none with state := .busy })) W3 ∧ Ix c D' W3) →
          ∃ v W4, (Instr.endRound (w.heap.size + 1) (some c)).run Try.prog W3 = .ok v W4 ∧ ((Ending.returned v = Ending.returned (.bool true) ∧ Next W1.heap.size k p st (fun k st D W => I k st D W ∧ W.heap[w.heap.size + 1]? = some (.loop (rec .ready none)) ∧ W.heap[w.heap.size]? = some (.deferred (some [])) ∧ ¬ D (w.heap.size + 1) ∧ ¬ D w.heap.size ∧ (∀ b, D b → b < W.heap.size)) D W W4) ∨
            (Ending.returned v = Ending.returned (.bool false) ∧ ∃ c D, Ix c D W4 ∧ W4.heap[w.heap.size + 1]? = some (.loop (rec .done (some c))) ∧ W4.heap[w.heap.size]? = some (.deferred (some [])) ∧ ¬ D (w.heap.size + 1) ∧ ¬ D w.heap.size)) := by
        rintro c W3 ⟨D', ht, hx⟩
        obtain ⟨hr, hl3, hl4, hk4⟩ := fin (some c) D' W3 ht
        obtain ⟨n1, n2, n3⟩ := nd ht
        exact ⟨_, _, hr, .inr ⟨rfl, c, D', hIx _ _ _ _ _ hx (grownBy_put _ _ _) (fun r e => by cases e; exact ⟨by omega, n1⟩), hl4, hk4, n1, n2⟩⟩
      rintro e a3 W3 hp
      cases e with
      | normal =>
        obtain ⟨k', q, b, o, len, cap, D', hk', hc, hq, hlc, hsm, hi3, ht, hpp⟩ := hp
        obtain ⟨hr, hl3, hl4, hk4⟩ := fin none D' W3 ht
        obtain ⟨n1, n2, n3⟩ := nd ht
        refine ⟨_, _, hr, .inl ⟨rfl, k', q, b, o, len, cap, D', hk', ?_, hq, hlc, hsm, ⟨hI _ _ _ _ _ _ hi3 (grownBy_put _ _ _) (fun r e => by cases e; exact ⟨by omega, n1⟩), hl4, hk4, n1, n2, fun b hb => by have := n3 b hb; simpa using this⟩, ht.record (by omega) (by omega), ?_⟩⟩
        · exact (grownBy_put _ _ _).cell hc (fun e => by have e' : p.1 = w.heap.size + 1 := Option.some.inj e; exact hpp.elim (fun h => by omega) (fun h => n1 (e' ▸ h)))
        · exact hpp.imp (fun h => by omega) id
      | ret => exact stop _ _ hp
      | exit id => exact stop _ _ hp
      | goto t => exact stop _ _ hp
      | panic ch => exact hp.elim
      | outgrown => exact hp.elim
    · rintro e W2 ⟨⟨v, rfl⟩, (⟨k, D, hi, hl, hk, n1, n2, n3⟩ | ⟨c, D, hx, hl, hk, n1, n2⟩)⟩
      · exact ⟨none, _, by have := run_endLoop (P := Try.prog) hl (by rw [hrec]; simp); rw [hrec] at this; exact this, hdone _ _ _ _ (Nat.le_refl _) n2 (hI _ _ _ _ _ _ hi (grownBy_put _ _ _) (fun r e => by cases e; exact ⟨by omega, n1⟩)) ((World.putObj_heap_other (by omega)).trans hk)⟩
      · exact ⟨some c, _, by have := run_endLoop (P := Try.prog) hl (by rw [hrec]; simp); rw [hrec] at this; exact this, hstop _ _ _ _ (Nat.le_refl _) n2 (hIx _ _ _ _ _ hx (grownBy_put _ _ _) (fun r e => by cases e; exact ⟨by omega, n1⟩)) ((World.putObj_heap_other (by omega)).trans hk)⟩

end Go.Proofs.Ytcjhgefkbnbmnaa
