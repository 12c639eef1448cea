/- Put: plain words on memory. -/
import Derived.Test.YtmjijmkdeblefaaKpC
import Derived.Test.YtmjijmkdeblefaaKpB
namespace Go.Proofs.Ytmjijmkdeblefaa
open Go.RowKit Go.Shelf LM
set_option linter.unusedVariables false

theorem PT.sel {Pend : PendT} {w : World} {op n : Int} (H : Hd) (K : Fo) : ∀ {f : Fo} {b o : Nat} {F : List Nat}, PT Pend w f b o [] [] F → (∀ x ∈ f.flat, x.1.op = op → x.1.n = n → x.2 = .nil) →
    PT PendV w (Fo.putF op n H K f) b o (sel op n (allF w f b o)) (List.replicate (sel op n (allF w f b o)).length (H, K)) F
  | .nil, _, _, _, h, _ => ⟨rfl, rfl, h.2.2⟩
  | .cons h k r, b, o, F, ⟨s1, s2, t1, t2, G1, G2, f1, f2, f3, hr, hc⟩, hv => by
    obtain ⟨rfl, rfl⟩ := List.append_eq_nil_iff.1 f1.symm
    obtain ⟨rfl, rfl⟩ := List.append_eq_nil_iff.1 f2.symm
    have hr2 := hr.sel H K (fun x hx => hv x (by simp [Fo.flat, hx]))
    rcases hc with ⟨x1, _⟩ | ⟨q, cap, hh, hk⟩
    · cases x1
    by_cases hm : h.op = op ∧ h.n = n
    · have hk0 : k = .nil := hv (h, k) (by simp [Fo.flat]) hm.1 hm.2
      subst hk0
      simp only [Fo.putF, if_pos hm, allF, List.nil_append]
      rw [sel_yes hm.1 hm.2, List.length_cons, List.replicate_succ]
      exact ⟨[(b, o)], _, [(H, K)], _, G1, G2, rfl, rfl, f3, hr2, .inl ⟨rfl, rfl, h, q, _, cap, hh⟩⟩
    · simp only [Fo.putF, if_neg hm, allF]
      rw [sel_no hm, sel_append, List.length_append, ← List.replicate_append_replicate]
      refine ⟨_, _, _, _, G1, G2, rfl, rfl, f3, hr2, .inr ⟨q, cap, by rw [Fo.len_put]; exact hh, ?_⟩⟩
      rcases hk with ⟨x1, _, _, x4⟩ | ⟨b', F', rfl, x2, x3, hk⟩
      · have hnil : k = .nil := by
          cases k with
          | nil => rfl
          | cons h k r => simp [Fo.len] at x1
        subst hnil
        exact .inl ⟨rfl, rfl, rfl, x4⟩
      · have e := kidAt_of hh
        refine .inr ⟨b', F', rfl, x2, x3, ?_⟩
        rw [e]
        exact hk.sel H K (fun x hx => hv x (by simp [Fo.flat, hx]))

/-- A variable of what is right has no Kids. -/
theorem fits_var {h : Hd} {k : Fo} (h1 : fitsB h k = true) (hv : isVarB h.op = true) : k = .nil := by
  have : kidsL h.op = some [] := by
    simp [isVarB] at hv
    unfold kidsL
    rw [if_pos (by omega)]
  simp [fitsB, this] at h1
  cases k with
  | nil => rfl
  | cons h k r => simp [Fo.sorts] at h1
theorem sound_fits : ∀ {l pre : List (Hd × Fo)}, soundFrom pre l = true → ∀ x ∈ l, fitsB x.1 x.2 = true
  | [], _, _, x, hx => by cases hx
  | p :: r, pre, h, x, hx => by
    simp only [soundFrom, Bool.and_eq_true] at h
    rcases List.mem_cons.1 hx with rfl | h2
    · exact h.1.1
    · exact sound_fits h.2 x h2
/-- Right as a type or as a row. -/
def riB (h : Hd) (k : Fo) : Bool := rightB h k 1 || rightB h k 2
theorem riB_fits {h : Hd} {k : Fo} (hr : riB h k = true) : ∀ x ∈ (Fo.cons h k .nil).flat, fitsB x.1 x.2 = true := by
  unfold riB at hr
  rw [rightB_eq h k 1 (.inl rfl), rightB_eq h k 2 (.inr rfl)] at hr
  have : soundFrom [] (Fo.cons h k .nil).flat = true := by
    simp at hr; rcases hr with h | h <;> exact h.2
  exact sound_fits this

/-- A part is overwritten. -/
def World.setTy (W : World) (p : Pl) (v0 v1 v2 v3 : Value) : World := (((W.setCell ⟨p.1, p.2, none⟩ v0).setCell ⟨p.1, p.2 + 1, none⟩ v1).setCell ⟨p.1, p.2 + 2, none⟩ v2).setCell ⟨p.1, p.2 + 3, none⟩ v3
theorem setTy_grown (W : World) (p : Pl) (v0 v1 v2 v3 : Value) : W.grownBy (World.setTy W p v0 v1 v2 v3) (some p.1) :=
  ⟨rfl, rfl, rfl, by simp [World.setTy], fun k _ hk => by
    have hne : k ≠ p.1 := fun e => hk (by rw [e])
    exact (Below.heap_setCell _ _ _ k hne).trans ((Below.heap_setCell _ _ _ k hne).trans ((Below.heap_setCell _ _ _ k hne).trans (Below.heap_setCell _ _ _ k hne)))⟩
theorem setTy_far {W : World} {p : Pl} {v0 v1 v2 v3 : Value} {i : Nat} (h : i < p.2 ∨ p.2 + 4 ≤ i) : (World.setTy W p v0 v1 v2 v3).cell? ⟨p.1, i, none⟩ = W.cell? ⟨p.1, i, none⟩ := by
  have ne : ∀ (W : World) (j : Nat) (v : Value), j ≠ i → (W.setCell ⟨p.1, j, none⟩ v).cell? ⟨p.1, i, none⟩ = W.cell? ⟨p.1, i, none⟩ := fun W j v hj =>
    World.cell?_setCell_other _ _ _ _ (fun e => hj (Addr.mk.inj e).2.1)
  unfold World.setTy
  rw [ne _ _ _ (by omega), ne _ _ _ (by omega), ne _ _ _ (by omega), ne _ _ _ (by omega)]
theorem setTy_at {W : World} {p : Pl} {v0 v1 v2 v3 u0 u1 u2 u3 : Value} (h0 : W.cell? ⟨p.1, p.2, none⟩ = some u0) (h1 : W.cell? ⟨p.1, p.2 + 1, none⟩ = some u1) (h2 : W.cell? ⟨p.1, p.2 + 2, none⟩ = some u2) (h3 : W.cell? ⟨p.1, p.2 + 3, none⟩ = some u3) :
    (World.setTy W p v0 v1 v2 v3).cell? ⟨p.1, p.2, none⟩ = some v0 ∧ (World.setTy W p v0 v1 v2 v3).cell? ⟨p.1, p.2 + 1, none⟩ = some v1 ∧ (World.setTy W p v0 v1 v2 v3).cell? ⟨p.1, p.2 + 2, none⟩ = some v2 ∧ (World.setTy W p v0 v1 v2 v3).cell? ⟨p.1, p.2 + 3, none⟩ = some v3 := by
  have ne : ∀ (W : World) (i j : Nat) (v : Value), j ≠ i → (W.setCell ⟨p.1, j, none⟩ v).cell? ⟨p.1, i, none⟩ = W.cell? ⟨p.1, i, none⟩ := fun W i j v hj =>
    World.cell?_setCell_other _ _ _ _ (fun e => hj (Addr.mk.inj e).2.1)
  unfold World.setTy
  refine ⟨?_, ?_, ?_, ?_⟩
  · rw [ne _ _ _ _ (by omega), ne _ _ _ _ (by omega), ne _ _ _ _ (by omega)]; exact World.cell?_setCell_same _ _ _ h0
  · rw [ne _ _ _ _ (by omega), ne _ _ _ _ (by omega)]; exact World.cell?_setCell_same _ _ _ (by rw [ne _ _ _ _ (by omega)]; exact h1)
  · rw [ne _ _ _ _ (by omega)]; exact World.cell?_setCell_same _ _ _ (by rw [ne _ _ _ _ (by omega), ne _ _ _ _ (by omega)]; exact h2)
  · exact World.cell?_setCell_same _ _ _ (by rw [ne _ _ _ _ (by omega), ne _ _ _ _ (by omega), ne _ _ _ _ (by omega)]; exact h3)
theorem setTy_rowB {W : World} {p : Pl} {b : Nat} (v0 v1 v2 v3 : Value) (h : RowB W b) : RowB (World.setTy W p v0 v1 v2 v3) b := (((h.set _ _).set _ _).set _ _).set _ _

/-- While the places are gone through: those from the i-th on are still to be put. Wm: the world in which this began; F0: the blocks of the tree then. -/
structure PutI (Wm : World) (B0 : Nat) (F0 : List Nat) (f : Fo) (H : Hd) (K : Fo) (pl : List Pl) (i : Nat) (W : World) : Prop where
  pt : ∃ F, PT PendV W f B0 0 (pl.drop i) (List.replicate (pl.length - i) (H, K)) F ∧ (B0 :: F).Nodup ∧ ∀ c ∈ F, (c ∈ F0 ∨ Wm.heap.size ≤ c) ∧ c < W.heap.size
  row : RowB W B0
  same : ∀ b, b < Wm.heap.size → b ≠ B0 → b ∉ F0 → W.heap[b]? = Wm.heap[b]?
  low : Below 0 Wm W

/-- What is known of the next place. -/
theorem PutI.here {Wm : World} {B0 : Nat} {F0 : List Nat} {f : Fo} {H : Hd} {K : Fo} {pl : List Pl} {i : Nat} {W : World} (h : PutI Wm B0 F0 f H K pl i W) {p : Pl} (hp : pl[i]? = some p) :
    (∃ h0 q len cap, HdAt W p.1 p.2 h0 q len cap) ∧ RowB W p.1 ∧ (p.1 = B0 ∨ p.1 ∈ F0 ∨ Wm.heap.size ≤ p.1) ∧
    ∀ (w2 : World) (q' : Option Addr) (cap' : Nat) (F' : List Nat), Below W.heap.size W w2 → OwnF w2 q' K F' → F'.Nodup → (∀ c ∈ F', W.heap.size ≤ c ∧ c < w2.heap.size) → K.len ≤ cap' → cap' ≤ maxLen → B0 < Wm.heap.size →
      PutI Wm B0 F0 f H K pl (i + 1) (World.setTy w2 p (.int .u8 H.op) (.string H.name) (.int .i64 H.n) (.slice q' K.len cap')) := by
  obtain ⟨hil, hpe⟩ := List.getElem?_eq_some_iff.1 hp
  obtain ⟨F, hpt, hnd, hF⟩ := h.pt
  have e1 : pl.drop i = p :: pl.drop (i + 1) := by rw [List.drop_eq_getElem_cons hil, hpe]
  have e2 : List.replicate (pl.length - i) (H, K) = (H, K) :: List.replicate (pl.length - (i + 1)) (H, K) := by
    rw [show pl.length - i = (pl.length - (i + 1)) + 1 by omega, List.replicate_succ]
  rw [e1, e2] at hpt
  obtain ⟨Fp, A, B, rfl, ⟨h0, q, len, cap, hh⟩, hpl, hrow, hgo⟩ := hpt.step PendV.loc hnd
  have hmem : p.1 = B0 ∨ p.1 ∈ A := hpl.imp (fun h => h.1) id
  refine ⟨⟨h0, q, len, cap, hh⟩, hrow h.row, hmem.imp id (fun hA => (hF _ (by simp [hA])).1), ?_⟩
  intro w2 q' cap' F' hb hown hnd' hF' hc1 hc2 hB0
  have hplt : p.1 < W.heap.size := hh.lt
  have hg := setTy_grown w2 p (.int .u8 H.op) (.string H.name) (.int .i64 H.n) (.slice q' K.len cap')
  have hs2 : W.heap.size ≤ w2.heap.size := hb.size
  have hoth : ∀ c, c < W.heap.size → c ≠ p.1 → (World.setTy w2 p (.int .u8 H.op) (.string H.name) (.int .i64 H.n) (.slice q' K.len cap')).heap[c]? = W.heap[c]? := fun c hc hne =>
    (hg.block c (by omega) (fun e => hne (Option.some.inj e))).trans (hb.block c hc)
  have hsW : Wm.heap.size ≤ W.heap.size := h.low.size
  have hAB : ∀ c ∈ A ++ B, (c ∈ F0 ∨ Wm.heap.size ≤ c) ∧ c < W.heap.size := fun c hc => hF c (by
    rcases List.mem_append.1 hc with h | h <;> simp [h])
  have c0 : ∀ i, w2.cell? ⟨p.1, i, none⟩ = W.cell? ⟨p.1, i, none⟩ := fun i => hb.cell (p := ⟨p.1, i, none⟩) hplt
  refine ⟨⟨A ++ F' ++ B, ?_, ?_, ?_⟩, ?_, ?_, ?_⟩
  · refine hgo _ [] [] F' (fun i hi => (setTy_far hi).trans (c0 i)) (fun c hc hne => hoth c ?_ hne) (fun hr => setTy_rowB _ _ _ _ (hr.same (hb.block _ hplt))) ?_
    · rcases List.mem_cons.1 hc with h1 | h1
      · subst h1; omega
      · exact (hAB c h1).2
    · obtain ⟨d0, d1, d2, d3⟩ := setTy_at (W := w2) (p := p) (v0 := .int .u8 H.op) (v1 := .string H.name) (v2 := .int .i64 H.n) (v3 := .slice q' K.len cap') ((c0 _).trans hh.c0) ((c0 _).trans hh.c1) ((c0 _).trans hh.c2) ((c0 _).trans hh.c3)
      refine ⟨q', cap', ⟨d0, d1, d2, d3, hc1, hc2⟩, ?_⟩
      have hown2 := hown.keep (w' := World.setTy w2 p (.int .u8 H.op) (.string H.name) (.int .i64 H.n) (.slice q' K.len cap')) (fun c hc => hg.block c (hF' c hc).2 (fun e => by have := Option.some.inj e; have := (hF' c hc).1; omega))
      rcases hown2 with ⟨x1, x2⟩ | ⟨b', F'', x1, x2, x3, x4⟩
      · exact .inl ⟨x1, rfl, rfl, x2⟩
      · exact .inr ⟨b', F'', x1, x2, x3, x4.any⟩
  · rw [List.nodup_cons, List.nodup_append, List.nodup_append] at hnd
    obtain ⟨n1, ⟨n2, n3, n4⟩, n5, n6⟩ := hnd
    rw [List.nodup_cons, List.nodup_append, List.nodup_append]
    refine ⟨?_, ⟨n2, hnd', ?_⟩, n5, ?_⟩
    · intro hc
      simp only [List.mem_append] at hc
      rcases hc with (hc | hc) | hc
      · exact n1 (by simp [hc])
      · have := (hF' _ hc).1; omega
      · exact n1 (by simp [hc])
    · intro a ha b hb2 e
      have := (hF' b hb2).1; have := (hAB a (by simp [ha])).2; omega
    · intro a ha b hb2 e
      rcases List.mem_append.1 ha with h1 | h1
      · exact n6 a (by simp [h1]) b hb2 e
      · have := (hF' a h1).1; have := (hAB b (by simp [hb2])).2; omega
  · intro c hc
    have hsz := hg.size
    simp only [List.mem_append] at hc
    rcases hc with (hc | hc) | hc
    · have := hAB c (by simp [hc]); exact ⟨this.1, by omega⟩
    · have := hF' c hc; exact ⟨.inr (by omega), by omega⟩
    · have := hAB c (by simp [hc]); exact ⟨this.1, by omega⟩
  · exact setTy_rowB _ _ _ _ (h.row.same (hb.block _ h.row.lt))
  · intro b hbs hb0 hbF
    rw [hoth b (by omega) ?_]
    · exact h.same b hbs hb0 hbF
    · intro e
      subst e
      rcases hmem with h1 | h1
      · exact hb0 h1
      · rcases (hAB p.1 (by simp [h1])).1 with h2 | h2
        · exact hbF h2
        · omega
  · exact h.low.trans ((hb.mono (Nat.zero_le _)).grown hg (Nat.zero_le _) (fun _ _ => Nat.zero_le _))

/-- Behind the last place: the whole tree. -/
theorem PutI.fin {Wm : World} {B0 : Nat} {F0 : List Nat} {f : Fo} {H : Hd} {K : Fo} {pl : List Pl} {W : World} (h : PutI Wm B0 F0 f H K pl pl.length W) : FoAt W f B0 0 := by
  obtain ⟨F, hpt, _⟩ := h.pt
  rw [List.drop_length, Nat.sub_self] at hpt
  exact hpt.fo

end Go.Proofs.Ytmjijmkdeblefaa
