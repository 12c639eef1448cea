/- A loop over a term's nodes: the law for a body that may turn the term. -/
import Derived.RangeFuncNested
import Derived.Test.YtcjhgefkbnbmnaaPTmB
import Derived.Test.YtcjhgefkbnbmnaaPB
namespace Go.Proofs.Ytcjhgefkbnbmnaa
open Go.RowKit Go.Shelf
set_option linter.unusedVariables false

/-- How the body may be left. -/
def nPost (n₀ : Nat) (I : Nat → List LP → (Nat → Prop) → World → Prop) (Ix : Code → (Nat → Prop) → World → Prop) (k : Nat) (p : LP) (st : List LP) (D : Nat → Prop) (W : World) : Exit → Act → World → Prop
  | .normal, _, W' => TNext n₀ k p st I D W W'
  | .ret, _, W' => ∃ D', Tch n₀ D D' W W' ∧ Ix .ret D' W'
  | .exit id, _, W' => ∃ D', Tch n₀ D D' W W' ∧ Ix (.exit id) D' W'
  | .goto t, _, W' => ∃ D', Tch n₀ D D' W W' ∧ Ix (.goto t) D' W'
  | .panic _, _, _ => False
  | .outgrown, _, _ => False

variable {F : Fence} {n : Nat}

theorem range_nodes {g : Operand} {ps : Array Tmp} {assign body : Code} {Q : Exit → Act → World → Prop} {a : Act} {w : World}
    (hro : F.round = none) (hn : 2 ≤ n) {Bn : Nat} (hg : a.eval g = .func (.func 98) #[] #[.pointer (some ⟨Bn, 0, none⟩)]) (h66 : F.fn 98) (root : Pl) (hBn : w.cell? ⟨Bn, 0, none⟩ = some (.pointer (some ⟨root.1, root.2, none⟩))) (hps : ps.size = 2)
    (I : Nat → List LP → (Nat → Prop) → World → Prop) (Ix : Code → (Nat → Prop) → World → Prop) (hI : TAbT w.heap.size I)
    (hIx : ∀ c D A B row, Ix c D A → A.grownBy B row → (∀ r, row = some r → w.heap.size ≤ r ∧ ¬ D r) → Ix c D B) (k : Nat) (h0 : I k [(1, root)] (fun _ => False) w) (a₁ : LP → Act)
    (hassign : ∀ (l : Nat) (p : LP) (W : World) (K : Act → World → Prop), K (a₁ p) W →
      assign.wpIn (F.inRound l) (n - 1 - 1) Try.prog (Exit.then K (fun _ _ _ => False)) { tmps := (ps.zip #[Value.int .i64 (p.1 : Nat), Value.pointer (some ⟨p.2.1, p.2.2, none⟩)]).foldl (fun t (p, v) => t.setIfInBounds p v) a.tmps, defers := [] } W)
    (hbody : ∀ (l k : Nat) (p : LP) (st : List LP) (D : Nat → Prop) (W : World), w.heap.size ≤ W.heap.size → (∀ b, D b → b < W.heap.size) → I k (p :: st) D W → body.wpIn (F.inRound l) (n - 1 - 1) Try.prog (nPost w.heap.size I Ix k p st D W) (a₁ p) W)
    (hdone : ∀ (K k : Nat) (D : Nat → Prop) (W : World), w.heap.size ≤ K → ¬ D K → I k [] D W → W.heap[K]? = some (.deferred (some [])) → Q .normal { a with defers := { target := .collected K, args := #[] } :: a.defers } W)
    (hstop : ∀ (K : Nat) (c : Code) (D : Nat → Prop) (W : World), w.heap.size ≤ K → ¬ D K → Ix c D W → W.heap[K]? = some (.deferred (some [])) → c.wpIn F n Try.prog Q { a with defers := { target := .collected K, args := #[] } :: a.defers } W) :
    (Code.rangeFunc g ps assign body).wpIn F n Try.prog Q a w := by
  refine wpIn_rangeFunc ?_
  intro fn hfn
  rw [hro]
  obtain ⟨rec, hrec⟩ : ∃ rec : LoopState → Option Code → Loop, rec = fun st pe => { state := st, pending := pe, fn, tmps := a.tmps, params := ps, assign, body, defers := w.heap.size } := ⟨_, rfl⟩
  obtain ⟨W1, hW1⟩ : ∃ W1, (w.alloc (.deferred (some []))).alloc (.loop (rec .ready none)) = W1 := ⟨_, rfl⟩
  have hz1 : W1.heap.size = w.heap.size + 2 := by rw [← hW1]; simp
  have hL1 : W1.heap[w.heap.size + 1]? = some (.loop (rec .ready none)) := by
    rw [← hW1]; have := World.alloc_heap_new (w.alloc (.deferred (some []))) (.loop (rec .ready none)); rwa [World.size_alloc] at this
  have hK1 : W1.heap[w.heap.size]? = some (.deferred (some [])) := by
    rw [← hW1]; exact (Below.heap_alloc _ _ _ (by simp)).trans (World.alloc_heap_new w _)
  have hI1 : I k [(1, root)] (fun _ => False) W1 := by
    rw [← hW1]; exact hI _ _ _ _ _ none (hI _ _ _ _ _ none h0 (World.grownBy_alloc _ _ _) (fun r e => by cases e)) (World.grownBy_alloc _ _ _) (fun r e => by cases e)
  have hc1 : W1.cell? ⟨Bn, 0, none⟩ = some (.pointer (some ⟨root.1, root.2, none⟩)) := by
    rw [← hW1]; exact (World.grownBy_alloc _ _ none).cell ((World.grownBy_alloc _ _ none).cell hBn (by simp)) (by simp)
  refine ⟨w.heap.size + 1, [{ target := .collected w.heap.size, args := #[] }], W1, { target := .fn (.func 98) #[.pointer (some ⟨Bn, 0, none⟩)], args := #[.func (.yield (w.heap.size + 1)) #[] #[]] }, W1, 98,
    #[.func (.yield (w.heap.size + 1)) #[] #[], .pointer (some ⟨Bn, 0, none⟩)], W1, ?_, ?_, ?_, ?_, fun _ => by omega, ?_⟩
  · rw [← hW1, hrec]; exact run_enterLoop_outer _ _ _ _ _
  · simp only [resolve, hg]
    simp [go_sem]
  · intro f' hf'; simp [Target.leads] at hf'; subst hf'; exact h66
  · simp [invoke, go_sem]
  · refine (nodes1_in F (n - 1) h66 hro (by omega) (w.heap.size + 1) Bn W1.heap.size
      (fun k st D W => I k st D W ∧ W.heap[w.heap.size + 1]? = some (.loop (rec .ready none)) ∧ W.heap[w.heap.size]? = some (.deferred (some [])) ∧ ¬ D (w.heap.size + 1) ∧ ¬ D w.heap.size ∧ (∀ b, D b → b < W.heap.size))
      (fun W => ∃ c D, Ix c D W ∧ W.heap[w.heap.size + 1]? = some (.loop (rec .done (some c))) ∧ W.heap[w.heap.size]? = some (.deferred (some [])) ∧ ¬ D (w.heap.size + 1) ∧ ¬ D w.heap.size)
      ?_ ?_ W1 (Nat.le_refl _) root hc1 k (fun _ => False) ⟨hI1, hL1, hK1, id, id, fun _ h => h.elim⟩ (fun _ h => h.elim)).mono ?_
    · rintro k st D A B row ⟨hi, hl, hk, hd1, hd2, hd3⟩ hgr hrow
      refine ⟨hI _ _ _ _ _ _ hi hgr (fun r e => ⟨by have := (hrow r e).1; omega, (hrow r e).2⟩), ?_, ?_, hd1, hd2, fun b hb => Nat.lt_of_lt_of_le (hd3 b hb) hgr.size⟩
      · exact (hgr.block _ (Array.getElem?_eq_some_iff.1 hl).1 (fun e => by have := (hrow _ e.symm).1; omega)).trans hl
      · exact (hgr.block _ (Array.getElem?_eq_some_iff.1 hk).1 (fun e => by have := (hrow _ e.symm).1; omega)).trans hk
    · -- ONE ROUND
      rintro k p st D W hWs ⟨hi, hl, hk, hd1, hd2, hd3⟩
      have hlt : w.heap.size + 1 < W.heap.size := (Array.getElem?_eq_some_iff.1 hl).1
      have hy := run_yield (P := Try.prog) (args := #[Value.int .i64 (p.1 : Nat), Value.pointer (some ⟨p.2.1, p.2.2, none⟩)]) hl (by rw [hrec]; exact hps.symm)
      rw [hrec] at hy
      refine ⟨fn, _, assign, body, hy, roundIn_of_wpIn hfn (hassign _ p W _ ⟨_, run_beginRound hl (by rw [hrec]), ?_⟩)⟩
      have hl2 : (W.putObj (w.heap.size + 1) (.loop { rec .ready none with state := .busy })).heap[w.heap.size + 1]? = some (.loop { rec .ready none with state := .busy }) := World.putObj_heap_same hlt
      have hk2 : (W.putObj (w.heap.size + 1) (.loop { rec .ready none with state := .busy })).heap[w.heap.size]? = some (.deferred (some [])) := (World.putObj_heap_other (by omega)).trans hk
      refine wpIn_mono (hbody _ k p st D _ (by simp; omega) (fun b hb => by have := hd3 b hb; simpa using this) (hI _ _ _ _ _ _ hi (grownBy_put _ _ _) (fun r e => by cases e; exact ⟨by omega, hd1⟩))) ?_
      have nd : ∀ {D' : Nat → Prop} {W3 : World}, Tch w.heap.size D D' (W.putObj (w.heap.size + 1) (.loop { rec .ready none with state := .busy })) W3 → ¬ D' (w.heap.size + 1) ∧ ¬ D' w.heap.size ∧ ∀ b, D' b → b < W3.heap.size := fun ht =>
        ⟨fun hd => (ht.own _ hd).elim hd1 (fun h => by simp at h; omega), fun hd => (ht.own _ hd).elim hd2 (fun h => by simp at h; omega), fun b hd => (ht.own b hd).elim (fun h => by have := hd3 b h; have := ht.size; simp at this; omega) (fun h => h.2)⟩
      have fin : ∀ (jump : Option Code) (D' : Nat → Prop) (W3 : World), Tch w.heap.size D D' (W.putObj (w.heap.size + 1) (.loop { rec .ready none with state := .busy })) W3 →
          (Instr.endRound (w.heap.size + 1) jump).run Try.prog W3 = .ok (.bool jump.isNone) (W3.putObj (w.heap.size + 1) (.loop (rec (if jump.isNone then .ready else .done) jump))) ∧
          W3.heap[w.heap.size + 1]? = some (.loop { rec .ready none with state := .busy }) ∧
          (W3.putObj (w.heap.size + 1) (.loop (rec (if jump.isNone then .ready else .done) jump))).heap[w.heap.size + 1]? = some (.loop (rec (if jump.isNone then .ready else .done) jump)) ∧
          (W3.putObj (w.heap.size + 1) (.loop (rec (if jump.isNone then .ready else .done) jump))).heap[w.heap.size]? = some (.deferred (some [])) := fun jump D' W3 ht => by
        have hl3 := (ht.same (w.heap.size + 1) (by omega) (by simpa using hlt) hd1).trans hl2
        have hk3 := (ht.same w.heap.size (by omega) (by simp; omega) hd2).trans hk2
        have := run_endRound (P := Try.prog) jump hl3
        rw [hrec] at this ⊢
        exact ⟨this, by rw [hrec] at hl3; exact hl3, World.putObj_heap_same (Array.getElem?_eq_some_iff.1 hl3).1, (World.putObj_heap_other (by omega)).trans hk3⟩
      have stop : ∀ (c : Code) (W3 : World), (∃ D', Tch w.heap.size D D' (W.putObj (w.heap.size + 1) (.loop { rec .ready none with state := .busy })) W3 ∧ Ix c D' W3) →
          ∃ v W4, (Instr.endRound (w.heap.size + 1) (some c)).run Try.prog W3 = .ok v W4 ∧ ((Ending.returned v = Ending.returned (.bool true) ∧ TNext W1.heap.size k p st (fun k st D W => I k st D W ∧ W.heap[w.heap.size + 1]? = some (.loop (rec .ready none)) ∧ W.heap[w.heap.size]? = some (.deferred (some [])) ∧ ¬ D (w.heap.size + 1) ∧ ¬ D w.heap.size ∧ (∀ b, D b → b < W.heap.size)) D W W4) ∨
            (Ending.returned v = Ending.returned (.bool false) ∧ ∃ c D, Ix c D W4 ∧ W4.heap[w.heap.size + 1]? = some (.loop (rec .done (some c))) ∧ W4.heap[w.heap.size]? = some (.deferred (some [])) ∧ ¬ D (w.heap.size + 1) ∧ ¬ D w.heap.size)) := by
        rintro c W3 ⟨D', ht, hx⟩
        obtain ⟨hr, hl3, hl4, hk4⟩ := fin (some c) D' W3 ht
        obtain ⟨n1, n2, n3⟩ := nd ht
        exact ⟨_, _, hr, .inr ⟨rfl, c, D', hIx _ _ _ _ _ hx (grownBy_put _ _ _) (fun r e => by cases e; exact ⟨by omega, n1⟩), hl4, hk4, n1, n2⟩⟩
      rintro e a3 W3 hp
      cases e with
      | normal =>
        obtain ⟨k', q, b, o, len, cap, D', hk', hc, hq, hlc, hsm, hlv, hi3, ht, hpp⟩ := hp
        obtain ⟨hr, hl3, hl4, hk4⟩ := fin none D' W3 ht
        obtain ⟨n1, n2, n3⟩ := nd ht
        refine ⟨_, _, hr, .inl ⟨rfl, k', q, b, o, len, cap, D', hk', ?_, hq, hlc, hsm, hlv, ⟨hI _ _ _ _ _ _ hi3 (grownBy_put _ _ _) (fun r e => by cases e; exact ⟨by omega, n1⟩), hl4, hk4, n1, n2, fun b hb => by have := n3 b hb; simpa using this⟩, ht.record (by omega) (by omega), ?_⟩⟩
        · exact (grownBy_put _ _ _).cell hc (fun e => by have e' : p.2.1 = w.heap.size + 1 := Option.some.inj e; exact hpp.elim (fun h => by omega) (fun h => n1 (e' ▸ h)))
        · exact hpp.imp (fun h => by omega) id
      | ret => exact stop _ _ hp
      | exit id => exact stop _ _ hp
      | goto t => exact stop _ _ hp
      | panic ch => exact hp.elim
      | outgrown => exact hp.elim
    · rintro e W2 ⟨⟨v, rfl⟩, (⟨k, D, hi, hl, hk, n1, n2, n3⟩ | ⟨c, D, hx, hl, hk, n1, n2⟩)⟩
      · exact ⟨none, _, by have := run_endLoop (P := Try.prog) hl (by rw [hrec]; simp); rw [hrec] at this; exact this, hdone _ _ _ _ (Nat.le_refl _) n2 (hI _ _ _ _ _ _ hi (grownBy_put _ _ _) (fun r e => by cases e; exact ⟨by omega, n1⟩)) ((World.putObj_heap_other (by omega)).trans hk)⟩
      · exact ⟨some c, _, by have := run_endLoop (P := Try.prog) hl (by rw [hrec]; simp); rw [hrec] at this; exact this, hstop _ _ _ _ (Nat.le_refl _) n2 (hIx _ _ _ _ _ hx (grownBy_put _ _ _) (fun r e => by cases e; exact ⟨by omega, n1⟩)) ((World.putObj_heap_other (by omega)).trans hk)⟩

end Go.Proofs.Ytcjhgefkbnbmnaa
