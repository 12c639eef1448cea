/- copied. -/
import Derived.Test.YtcjhgefkbnbmnaaPC
import Derived.Test.YtcjhgefkbnbmnaaPKdI
namespace Go.Proofs.Ytcjhgefkbnbmnaa
open Go.RowKit Go.Shelf LM
set_option linter.unusedVariables false
attribute [local go_sem] Oper.semAt_some

/-- Nothing is still to come. -/
abbrev PendN : PendT := fun _ _ _ _ _ _ => False
theorem PT.any {Pend Pend' : PendT} {w : World} : ∀ {f : Fo} {b o : Nat} {ts : List (Hd × Fo)} {F : List Nat}, PT Pend w f b o [] ts F → PT Pend' w f b o [] [] F
  | .nil, _, _, _, _, h => ⟨rfl, rfl, h.2.2⟩
  | .cons h k r, b, o, ts, F, ⟨s1, s2, t1, t2, G1, G2, f1, f2, f3, hr, hc⟩ => by
    obtain ⟨rfl, rfl⟩ := List.append_eq_nil_iff.1 f1.symm
    refine ⟨[], [], [], [], G1, G2, rfl, rfl, f3, hr.any, ?_⟩
    rcases hc with ⟨x1, _⟩ | ⟨q, cap, hh, hk⟩
    · cases x1
    · refine .inr ⟨q, cap, hh, ?_⟩
      rcases hk with ⟨x1, _, _, x4⟩ | ⟨b', F', x1, x2, x3, hk⟩
      · exact .inl ⟨x1, rfl, rfl, x4⟩
      · exact .inr ⟨b', F', x1, x2, x3, hk.any⟩
theorem PT.fo {Pend : PendT} {w : World} : ∀ {f : Fo} {b o : Nat} {ts : List (Hd × Fo)} {F : List Nat}, PT Pend w f b o [] ts F → FoAt w f b o
  | .nil, _, _, _, _, h => trivial
  | .cons h k r, b, o, ts, F, ⟨s1, s2, t1, t2, G1, G2, f1, f2, f3, hr, hc⟩ => by
    obtain ⟨rfl, rfl⟩ := List.append_eq_nil_iff.1 f1.symm
    rcases hc with ⟨x1, _⟩ | ⟨q, cap, hh, hk⟩
    · cases x1
    · refine ⟨q, cap, hh, fun h0 => ?_, hr.fo⟩
      rcases hk with ⟨x1, _⟩ | ⟨b', F', rfl, rfl, x3, hk⟩
      · omega
      · exact ⟨b', 0, rfl, hk.fo⟩
theorem PT.stlen {Pend : PendT} {w : World} : ∀ {f : Fo} {b o : Nat} {st : List Pl} {ts : List (Hd × Fo)} {F : List Nat}, PT Pend w f b o st ts F → st.length = ts.length
  | .nil, _, _, _, _, _, h => by rw [h.1, h.2.1]; rfl
  | .cons h k r, b, o, st, ts, F, ⟨s1, s2, t1, t2, G1, G2, f1, f2, f3, hr, hc⟩ => by
    rw [f1, f2, List.length_append, List.length_append, hr.stlen]
    rcases hc with ⟨x1, x2, _⟩ | ⟨q, cap, hh, hk⟩
    · rw [x1, x2]; rfl
    · rcases hk with ⟨_, x1, x2, _⟩ | ⟨b', F', _, _, _, hk⟩
      · rw [x1, x2]; rfl
      · rw [hk.stlen]

/-- The call's own tree. -/
def OwnF (w : World) (q : Option Addr) (f : Fo) (F : List Nat) : Prop :=
  (f.len = 0 ∧ F = []) ∨ ∃ b' F', q = some ⟨b', 0, none⟩ ∧ F = b' :: F' ∧ RowB w b' ∧ PT PendN w f b' 0 [] [] F'
theorem OwnF.slF {w : World} {q : Option Addr} {f : Fo} {F : List Nat} {cap : Nat} (h : OwnF w q f F) (hl : f.len ≤ cap) (hc : cap ≤ maxLen) : SlF w q cap f := by
  refine ⟨hl, hc, fun h0 => ?_⟩
  rcases h with ⟨h1, _⟩ | ⟨b', F', rfl, _, _, hp⟩
  · omega
  · exact ⟨b', 0, rfl, hp.fo⟩

/-- The cells of trees side by side. -/
def CellsOf (w : World) : Fo → List Value → Prop
  | .nil, cs => cs = []
  | .cons h k r, cs => ∃ q cap cs', cs = .int .u8 h.op :: .string h.name :: .int .i64 h.n :: .slice q k.len cap :: cs' ∧ SlF w q cap k ∧ CellsOf w r cs'
theorem FoAt.cellsOf {w : World} : ∀ {f : Fo} {b o : Nat}, FoAt w f b o → ∃ cs, CellsOf w f cs ∧ ∀ j u, cs[j]? = some u → w.cell? ⟨b, o + j, none⟩ = some u
  | .nil, _, _, _ => ⟨[], rfl, fun j u h => by simp at h⟩
  | .cons h k r, b, o, ⟨q, cap, hh, hk, hr⟩ => by
    obtain ⟨cs, h1, h2⟩ := FoAt.cellsOf hr
    refine ⟨_, ⟨q, cap, cs, rfl, ⟨hh.lc, hh.cm, hk⟩, h1⟩, fun j u hj => ?_⟩
    match j, hj with
    | 0, hj => simp at hj; subst hj; exact hh.c0
    | 1, hj => simp at hj; subst hj; exact hh.c1
    | 2, hj => simp at hj; subst hj; exact hh.c2
    | 3, hj => simp at hj; subst hj; exact hh.c3
    | j + 4, hj =>
      rw [show o + (j + 4) = o + 4 + j by omega]
      exact h2 j u (by simpa using hj)
theorem CellsOf.length {w : World} : ∀ {f : Fo} {cs : List Value}, CellsOf w f cs → cs.length = f.len * 4
  | .nil, _, h => by rw [h]; rfl
  | .cons h k r, _, ⟨q, cap, cs', rfl, _, hr⟩ => by simp [Fo.len, CellsOf.length hr]; omega
theorem CellsOf.one {w : World} : ∀ {f : Fo} {cs : List Value}, CellsOf w f cs → ∀ u ∈ cs, u.oneCell' = true
  | .nil, _, h, u, hu => by rw [h] at hu; cases hu
  | .cons h k r, _, ⟨q, cap, cs', rfl, _, hr⟩, u, hu => by
    simp only [List.mem_cons] at hu
    rcases hu with rfl | rfl | rfl | rfl | hu
    · rfl
    · rfl
    · rfl
    · rfl
    · exact CellsOf.one hr u hu

/-- A part whose Kids are still where they came from. -/
def PendC (w0 : World) : PendT := fun w b o h k F => F = [] ∧ ∃ q cap, HdAt w b o h q k.len cap ∧ SlF w0 q cap k
theorem PendC.loc (w0 : World) : LocP (PendC w0) := fun w w' b o h k F ⟨hF, q, cap, hh, hs⟩ hc _ => ⟨hF, q, cap, hh.cells hc, hs⟩
theorem CellsOf.pend {w0 w : World} {b : Nat} : ∀ {f : Fo} {cs : List Value} {o : Nat}, CellsOf w0 f cs → (∀ j u, cs[j]? = some u → w.cell? ⟨b, o + j, none⟩ = some u) → PT (PendC w0) w f b o (kidsP b o f.len) f.toList []
  | .nil, _, _, _, _ => ⟨rfl, rfl, rfl⟩
  | .cons h k r, _, o, ⟨q, cap, cs', rfl, hs, hr⟩, hc => by
    refine ⟨[(b, o)], kidsP b (o + 4) r.len, [(h, k)], r.toList, [], [], kidsP_succ b o r.len, rfl, rfl, CellsOf.pend hr (fun j u hj => ?_), .inl ⟨rfl, rfl, rfl, q, cap, ⟨hc 0 _ rfl, hc 1 _ rfl, hc 2 _ rfl, hc 3 _ rfl, hs.lc, hs.cm⟩, hs⟩⟩
    rw [show o + 4 + j = o + (j + 4) by omega]
    exact hc (j + 4) u (by simpa using hj)

theorem info25 : (Try.prog.info? 25).map (fun i => (i.zero, i.size, i.bytes)) = some (some (.agg #[.int .u8 0, .string ⟨#[]⟩, .int .i64 0, .slice none 0 0]), 4, 56) := by kernel_rfl

theorem own_some {w : World} {base : Nat} {e : TypeId} {size : Nat} {v : Value} {n : Nat} {xs : List Value} (h : w.ownsRow base e size v n xs) (hn : 0 < n) :
    ∃ g cap cur, v = .slice (some ⟨g, 0, none⟩) n cap ∧ base ≤ g ∧ w.heap[g]? = some (.cells cur e (0, 0)) ∧ n ≤ cap ∧ cap ≤ maxLen ∧ ∀ j u, xs[j]? = some u → w.cell? ⟨g, 0 + j, none⟩ = some u := by
  rcases h.2 with ⟨_, h0⟩ | ⟨g, cap, cur, rfl, h1, h2, h3, h4, h5, h6⟩
  · omega
  · refine ⟨g, cap, cur, rfl, h1, h2, h3, h4, fun j u hj => ?_⟩
    have hj2 : cur.toList[j]? = some u := by
      rw [← h6] at hj
      rw [List.getElem?_take] at hj
      split at hj
      · exact hj
      · cases hj
    simp only [World.cell?, h2]
    simpa using hj2

theorem row_set {W : World} {b : Nat} {cs : Array Value} {t : TypeId} (h : W.heap[b]? = some (.cells cs t (0, 0))) (i : Nat) (v : Value) : (W.setCell ⟨b, i, none⟩ v).heap[b]? = some (.cells (cs.setIfInBounds i v) t (0, 0)) := by
  obtain ⟨hlt, hk⟩ := Array.getElem?_eq_some_iff.1 h
  show (W.heap.modify b _)[b]? = _
  rw [Array.getElem?_eq_getElem (by rw [Array.size_modify]; exact hlt), Array.getElem_modify_self, hk]
  rfl
/-- A type is stored into a variable. -/
def World.set4 (W : World) (b : Nat) (v0 v1 v2 v3 : Value) : World := (((W.setCell ⟨b, 0, none⟩ v0).setCell ⟨b, 1, none⟩ v1).setCell ⟨b, 2, none⟩ v2).setCell ⟨b, 3, none⟩ v3
theorem set4_row {W : World} {b : Nat} {a0 a1 a2 a3 : Value} {t : TypeId} (h : W.heap[b]? = some (.cells #[a0, a1, a2, a3] t (0, 0))) (v0 v1 v2 v3 : Value) : (World.set4 W b v0 v1 v2 v3).heap[b]? = some (.cells #[v0, v1, v2, v3] t (0, 0)) := by
  have := row_set (row_set (row_set (row_set h 0 v0) 1 v1) 2 v2) 3 v3
  simpa [World.set4] using this
theorem set4_grown (W : World) (b : Nat) (v0 v1 v2 v3 : Value) : W.grownBy (World.set4 W b v0 v1 v2 v3) (some b) :=
  ⟨rfl, rfl, rfl, by simp [World.set4], fun k _ hk => by
    have hne : k ≠ b := fun e => hk (by rw [e])
    exact (Below.heap_setCell _ _ _ k hne).trans ((Below.heap_setCell _ _ _ k hne).trans ((Below.heap_setCell _ _ _ k hne).trans (Below.heap_setCell _ _ _ k hne)))⟩

/-- What copied answers. -/
def CopPost (w : World) (h : Hd) (f : Fo) (e : Ending) (w' : World) : Prop := ∃ q' cap' F, e = .returned (.agg #[.int .u8 h.op, .string h.name, .int .i64 h.n, .slice q' f.len cap']) ∧ f.len ≤ cap' ∧ cap' ≤ maxLen ∧
      OwnF w' q' f F ∧ F.Nodup ∧ (∀ c ∈ F, w.heap.size ≤ c ∧ c < w'.heap.size) ∧ Below w.heap.size w w'

theorem OwnF.keep {w w' : World} {q : Option Addr} {f : Fo} {F : List Nat} (h : OwnF w q f F) (hF : ∀ c ∈ F, w'.heap[c]? = w.heap[c]?) : OwnF w' q f F := by
  rcases h with h | ⟨b', F', rfl, rfl, hr, hp⟩
  · exact .inl h
  · have eb := hF b' (by simp)
    exact .inr ⟨b', F', rfl, rfl, hr.same eb, hp.keep (fun _ _ _ _ _ _ _ h _ _ => h) (fun i _ => cell_same eb i) (fun c hc => hF c (by simp [hc]))⟩

/-- What copied keeps. -/
structure CopI (w : World) (h : Hd) (f : Fo) (k : Nat) (st : List Pl) (ts : List (Hd × Fo)) (F : List Nat) (D : Nat → Prop) (W : World) : Prop where
  n : k = (flatL ts).length
  small : k ≤ 1099511627776
  pt : PT (PendC w) W (.cons h f .nil) w.heap.size 0 st ts F
  nd : (w.heap.size :: F).Nodup
  big : ∀ c ∈ F, w.heap.size + 1 + 1 + 1 ≤ c
  d1 : ∀ c, D c → c ∈ F
  d2 : ∀ c, c ∈ F → D c
  lt : ∀ c, c ∈ F → c < W.heap.size
  row : RowB W w.heap.size
  res : W.heap[w.heap.size + 1]? = some (.cells #[.int .u8 0, .string ⟨#[]⟩, .int .i64 0, .slice none 0 0] 25 (0, 0))
  below : Below w.heap.size w W
  room : w.heap.size + 1 + 1 + 1 ≤ W.heap.size

theorem CopI.kept {w : World} {h : Hd} {f : Fo} {k : Nat} {st : List Pl} {ts : List (Hd × Fo)} {F : List Nat} {D : Nat → Prop} {X Y : World} {row : Option Nat} (hx : CopI w h f k st ts F D X) (hg : X.grownBy Y row)
    (hr : ∀ r, row = some r → w.heap.size + 1 + 1 + 1 ≤ r ∧ ¬ D r) : CopI w h f k st ts F D Y := by
  have hlt := hx.row.lt
  have e1 : Y.heap[w.heap.size]? = X.heap[w.heap.size]? := hg.block _ hlt (fun e => by have := (hr _ e.symm).1; omega)
  have hl2 := (Array.getElem?_eq_some_iff.1 hx.res).1
  exact ⟨hx.n, hx.small, hx.pt.keep (PendC.loc w) (fun i _ => cell_same e1 i) (fun c hc => hg.block c (hx.lt c hc) (fun e => (hr c e.symm).2 (hx.d2 c hc))), hx.nd, hx.big, hx.d1, hx.d2, fun c hc => Nat.lt_of_lt_of_le (hx.lt c hc) hg.size, hx.row.same e1,
    (hg.block _ hl2 (fun e => by have := (hr _ e.symm).1; omega)).trans hx.res, hx.below.grown hg hx.below.size (fun r e => by have := (hr r e).1; omega), Nat.le_trans hx.room hg.size⟩

theorem CopI.next {w : World} {h : Hd} {f : Fo} {k : Nat} {p : Pl} {st : List Pl} {t : Hd × Fo} {ts : List (Hd × Fo)} {F A B : List Nat} {D : Nat → Prop} {W w1 : World} {q1 q' : Option Addr} {cap1 cp : Nat} {kst : List Pl} {kts : List (Hd × Fo)} {G : List Nat}
    (hx : CopI w h f k (p :: st) (t :: ts) F D W) (hF : F = A ++ [] ++ B) (hpl : (p.1 = w.heap.size ∧ 0 ≤ p.2) ∨ p.1 ∈ A)
    (hgo : ∀ (w' : World) (kst : List Pl) (kts : List (Hd × Fo)) (F1 : List Nat), (∀ i, i < p.2 ∨ p.2 + 4 ≤ i → w'.cell? ⟨p.1, i, none⟩ = W.cell? ⟨p.1, i, none⟩) →
        (∀ c ∈ w.heap.size :: (A ++ B), c ≠ p.1 → w'.heap[c]? = W.heap[c]?) → (RowB W p.1 → RowB w' p.1) → Vis (PendC w) w' p t.1 t.2 kst kts F1 → PT (PendC w) w' (.cons h f .nil) w.heap.size 0 (kst ++ st) (kts ++ ts) (A ++ F1 ++ B))
    (hhd : HdAt W p.1 p.2 t.1 q1 t.2.len cap1) (hg : W.grownBy w1 none) (hcp : t.2.len ≤ cp) (hcm : cp ≤ maxLen)
    (hk : (t.2.len = 0 ∧ kst = [] ∧ kts = [] ∧ G = []) ∨ ∃ b' F', q' = some ⟨b', 0, none⟩ ∧ G = b' :: F' ∧ RowB (w1.setCell ⟨p.1, p.2 + 3, none⟩ (.slice q' t.2.len cp)) b' ∧ PT (PendC w) (w1.setCell ⟨p.1, p.2 + 3, none⟩ (.slice q' t.2.len cp)) t.2 b' 0 kst kts F')
    (hkts : flatL kts = t.2.flat) (hG : ∀ c ∈ G, W.heap.size ≤ c ∧ c < w1.heap.size) (hGn : G.Nodup) :
    CopI w h f (k - 1) (kst ++ st) (kts ++ ts) (A ++ G ++ B) (fun c => c ∈ A ++ G ++ B) (w1.setCell ⟨p.1, p.2 + 3, none⟩ (.slice q' t.2.len cp)) ∧
      Tch (w.heap.size + 1 + 1 + 1) D (fun c => c ∈ A ++ G ++ B) W (w1.setCell ⟨p.1, p.2 + 3, none⟩ (.slice q' t.2.len cp)) ∧ (p.1 < w.heap.size + 1 + 1 + 1 ∨ p.1 ∈ A ++ G ++ B) ∧ k - 1 < k := by
  subst hF
  have hlt := hhd.lt
  have ep := hg.block p.1 hlt (by simp)
  have ho : ∀ c, c < W.heap.size → c ≠ p.1 → (w1.setCell ⟨p.1, p.2 + 3, none⟩ (.slice q' t.2.len cp)).heap[c]? = W.heap[c]? := fun c hc hne => (Below.heap_setCell _ _ _ c hne).trans (hg.block c hc (by simp))
  have hcell : ∀ i, i ≠ p.2 + 3 → (w1.setCell ⟨p.1, p.2 + 3, none⟩ (.slice q' t.2.len cp)).cell? ⟨p.1, i, none⟩ = W.cell? ⟨p.1, i, none⟩ := fun i hi => (World.cell?_setCell_other w1 ⟨p.1, p.2 + 3, none⟩ ⟨p.1, i, none⟩ _ (fun e => hi (congrArg Addr.off e).symm)).trans (cell_same ep i)
  have hmem : ∀ c, c ∈ A ++ B → c ∈ A ++ [] ++ B := fun c hc => by simpa using hc
  have hgrow : W.grownBy (w1.setCell ⟨p.1, p.2 + 3, none⟩ (.slice q' t.2.len cp)) (some p.1) :=
    ⟨hg.os, hg.tape, hg.output, by simpa using hg.size, fun c hc hne => ho c hc (fun e => hne (by rw [e]))⟩
  have hrlt := hx.row.lt
  have hkpos : k - 1 < k ∧ k = 1 + t.2.flat.length + (flatL ts).length := by
    have := hx.n; simp [flatL] at this; omega
  have hnd := hx.nd
  have hne2 : p.1 ≠ w.heap.size + 1 := by
    rcases hpl with h1 | h1
    · omega
    · have := hx.big p.1 (by simp [h1]); omega
  have hpd : p.1 < w.heap.size + 1 + 1 + 1 ∨ D p.1 := by
    rcases hpl with h1 | h1
    · left; omega
    · exact .inr (hx.d2 _ (by simp [h1]))
  refine ⟨⟨?_, by have := hx.small; omega, ?_, ?_, ?_, fun c hc => hc, fun c hc => hc, ?_, ?_, ?_, ?_, by have := hx.room; have := hg.size; simp; omega⟩, ⟨by simpa using hg.size, ?_, ?_, ?_⟩, ?_, hkpos.1⟩
  · rw [flatL_append, List.length_append, hkts]; omega
  · refine hgo _ kst kts G (fun i hi => hcell i (by omega)) (fun c hc hne => ?_) (fun hr => ?_) ⟨q', cp, ⟨(hcell _ (by omega)).trans hhd.c0, (hcell _ (by omega)).trans hhd.c1, (hcell _ (by omega)).trans hhd.c2, ?_, hcp, hcm⟩, hk⟩
    · refine ho c ?_ hne
      rcases List.mem_cons.1 hc with h1 | h1
      · rw [h1]; exact hrlt
      · exact hx.lt c (hmem c h1)
    · exact (hr.same ep).set _ _
    · exact World.cell?_setCell_same' _ _ _ (by rw [cell_same ep, hhd.c3]; rfl)
  · rw [List.nodup_cons] at hnd ⊢
    obtain ⟨h1, h2⟩ := hnd
    simp only [List.append_nil] at h1 h2
    rw [List.nodup_append] at h2
    obtain ⟨h3, h4, h5⟩ := h2
    refine ⟨fun hc => ?_, ?_⟩
    · simp only [List.mem_append] at hc h1
      rcases hc with (hc | hc) | hc
      · exact h1 (.inl hc)
      · have := (hG _ hc).1; omega
      · exact h1 (.inr hc)
    · rw [List.nodup_append, List.nodup_append]
      refine ⟨⟨h3, hGn, fun a ha b hb e => ?_⟩, h4, fun a ha b hb e => ?_⟩
      · have := hx.lt a (by simp [ha]); have := (hG b hb).1; omega
      · rcases List.mem_append.1 ha with h6 | h6
        · exact h5 a h6 b hb e
        · have := hx.lt b (by simp [hb]); have := (hG a h6).1; omega
  · intro c hc
    simp only [List.mem_append] at hc
    rcases hc with (hc | hc) | hc
    · exact hx.big c (by simp [hc])
    · have := (hG c hc).1; have := (Array.getElem?_eq_some_iff.1 hx.res).1; have := hx.lt; 
      have h3 : w.heap.size + 1 + 1 + 1 ≤ W.heap.size := hx.room
      omega
    · exact hx.big c (by simp [hc])
  · intro c hc
    have hs := hg.size
    simp only [List.mem_append] at hc
    rcases hc with (hc | hc) | hc
    · have := hx.lt c (by simp [hc]); simp; omega
    · have := (hG c hc).2; simp; omega
    · have := hx.lt c (by simp [hc]); simp; omega
  · have e0 : RowB w1 w.heap.size := hx.row.same (hg.block _ hrlt (by simp))
    exact e0.set _ _
  · exact (ho _ (Array.getElem?_eq_some_iff.1 hx.res).1 (fun e => hne2 e.symm)).trans hx.res
  · refine hx.below.grown hgrow hx.below.size (fun r e => ?_)
    cases e
    rcases hpl with h1 | h1
    · omega
    · have := hx.big p.1 (by simp [h1]); omega
  · intro b hb hlt' hd
    exact ho b hlt' (fun e => hpd.elim (fun h1 => by omega) (fun h1 => hd (e ▸ h1)))
  · intro b hb
    simp only [List.mem_append] at hb
    rcases hb with (hb | hb) | hb
    · exact .inl (hx.d2 b (by simp [hb]))
    · have := hG b hb; exact .inr ⟨this.1, by simpa using this.2⟩
    · exact .inl (hx.d2 b (by simp [hb]))
  · intro b hb
    have := hx.d1 b hb
    simp only [List.mem_append, List.append_nil] at this ⊢
    rcases this with h1 | h1
    · exact .inl (.inl h1)
    · exact .inr h1
  · rcases hpl with h1 | h1
    · left; omega
    · right; simp [h1]

set_option maxRecDepth 100000 in
set_option maxHeartbeats 2000000 in
theorem copied_any (h : Hd) (f : Fo) (q : Option Addr) (cap : Nat) (w : World) (hh : h.ok) (hf : SlF w q cap f) (hok : f.ok) (hsz : 1 + f.size ≤ 1099511627776) :
    Calls Try.prog 69 #[.agg #[.int .u8 h.op, .string h.name, .int .i64 h.n, .slice q f.len cap]] w (CopPost w h f) := by
  refine (callsIn_wide (n := 9)).1 ?_
  have HP := Lib.hid parts_any
  refine callsIn_of_wp_marks Try.func69 rfl trivial ?_ rfl
  simp only [Try.ntmps69, List.size_toArray, List.length_cons, List.length_nil, Nat.reduceAdd, Nat.reduceSub, Array.replicate_succ, Array.replicate_zero, List.push_toArray, List.append_toArray, List.nil_append, List.cons_append]
  gi_wp2_with (refine ⟨trivial, ?_⟩; gi_at_call 57; refine (callsIn_wide.2 (HP.out _ _)).mono ?_; rintro e w' ⟨rfl, rfl⟩)
  refine range_parts rfl (by omega) (Bn := w.heap.size + 1 + 1) rfl trivial (w.heap.size, 0) ?c1 rfl
    (fun k st D W => ∃ ts F, CopI w h f k st ts F D W) (fun _ _ _ => False) ?hI (fun _ _ _ _ _ hx _ _ => hx.elim) (1 + f.size) ?c2
    (fun p => { tmps := #[.agg #[.int .u8 h.op, .string h.name, .int .i64 h.n, .slice q f.len cap], .pointer (some ⟨w.heap.size, 0, none⟩), .pointer (some ⟨w.heap.size + 1, 0, none⟩), .pointer (some ⟨p.1, p.2, none⟩),
      .func (.func 88) #[] #[.pointer (some ⟨w.heap.size + 1 + 1, 0, none⟩)], .pointer (some ⟨p.1, p.2, none⟩), undef, undef, undef, undef, undef, undef, undef, undef, undef], defers := [] }) ?assign ?body ?done ?stop
  case assign =>
    intro l p W K hK
    gi_wp2
    simpa using hK
  case c1 => exact Boxed.cell (by have := Boxed.new ((w.alloc (.cells #[.int .u8 h.op, .string h.name, .int .i64 h.n, .slice q f.len cap] 25)).alloc (.cells #[.int .u8 0, .string ⟨#[]⟩, .int .i64 0, .slice none 0 0] 25)) 64 (.pointer (some ⟨w.heap.size, 0, none⟩)); simpa only [World.size_alloc] using this)
  case hI =>
    rintro k st D X Y row ⟨ts, F, hx⟩ hg hr
    exact ⟨ts, F, hx.kept hg (fun r e => by have := hr r e; simp at this; exact ⟨by omega, this.2⟩)⟩
  case c2 =>
    obtain ⟨⟨q1, cap1, hb1, hb2⟩, _⟩ := boxed_st w h f q cap hf
    have e0 : ∀ (o1 o2 : Obj), (((w.alloc (.cells #[.int .u8 h.op, .string h.name, .int .i64 h.n, .slice q f.len cap] 25)).alloc o1).alloc o2).heap[w.heap.size]? = (w.alloc (.cells #[.int .u8 h.op, .string h.name, .int .i64 h.n, .slice q f.len cap] 25)).heap[w.heap.size]? := fun o1 o2 =>
      (((Below.refl _ _).alloc (Nat.le_refl _) o1).alloc (by simp) o2).block w.heap.size (by simp)
    have e1 : (w.alloc (.cells #[.int .u8 h.op, .string h.name, .int .i64 h.n, .slice q f.len cap] 25)).heap[w.heap.size]? = some (.cells #[.int .u8 h.op, .string h.name, .int .i64 h.n, .slice q f.len cap] 25 (0, 0)) := World.alloc_heap_new w _
    have hc : ∀ (o1 o2 : Obj), HdAt (((w.alloc (.cells #[.int .u8 h.op, .string h.name, .int .i64 h.n, .slice q f.len cap] 25)).alloc o1).alloc o2) w.heap.size 0 h q f.len cap := fun o1 o2 => by
      refine HdAt.same ?_ (e0 o1 o2)
      refine ⟨?_, ?_, ?_, ?_, hf.lc, hf.cm⟩ <;> (simp only [World.cell?, e1]; rfl)
    have e2 := World.alloc_heap_new (w.alloc (.cells #[.int .u8 h.op, .string h.name, .int .i64 h.n, .slice q f.len cap] 25)) (.cells #[.int .u8 0, .string ⟨#[]⟩, .int .i64 0, .slice none 0 0] 25)
    rw [World.size_alloc] at e2
    refine ⟨[(h, f)], [], ⟨(length_one h f).symm, hsz, ⟨[(w.heap.size, 0)], [], [(h, f)], [], [], [], rfl, rfl, rfl, ⟨rfl, rfl, rfl⟩, .inl ⟨rfl, rfl, rfl, q, cap, hc _ _, hf⟩⟩, by simp, by simp, fun c hc => hc.elim, by simp, by simp, ⟨_, (e0 _ _).trans e1⟩, ?_, ?_, by simp⟩⟩
    · exact ((Below.refl _ _).alloc (Nat.le_refl _) _).block _ (by simp) |>.trans e2
    · exact (((Below.refl _ _).alloc (Nat.le_refl _) _).alloc (by simp) _).alloc (by simp; omega) _
  case body =>
    rintro l k p st D W hW hD ⟨ts, F, hx⟩
    cases ts with
    | nil => have := hx.pt.stlen; simp at this
    | cons t ts =>
    obtain ⟨Fp, A, B, hF, ⟨rfl, q1, cap1, hhd, hsl⟩, hpl, hrow, hgo⟩ := hx.pt.step (PendC.loc w) hx.nd
    have hslW := hsl.below hx.below
    have c3 := hhd.c3
    have hpl2 := hhd.lt
    have hrw := hrow hx.row
    have hfz := hrw.frozen (p.2 + 3)
    have hW' : w.heap.size + 1 + 1 + 1 ≤ W.heap.size := by simp at hW; omega
    have hpne : p.1 ≠ w.heap.size + 1 := by
      rcases hpl with h1 | h1
      · omega
      · have := hx.big p.1 (by rw [hF]; simp [h1]); omega
    have HX := Lib.hid hx
    have HF := Lib.hid hF
    have HGO := Lib.hid hgo
    have HPL := Lib.hid hpl
    have HRW := Lib.hid hrw
    have HHD := Lib.hid hhd
    have HSL := Lib.hid hsl
    have HSW := Lib.hid hslW
    obtain ⟨i0, hi, hz0, hz1, hz2⟩ := info_parts info25
    have hsm : (flatL (t :: ts)).length ≤ 1099511627776 := by rw [← hx.n]; exact hx.small
    have hlt1 : t.2.len + ts.length + 1 ≤ (flatL (t :: ts)).length := by
      have a2 := flatL_len ts
      have a3 := Fo.len_le_size t.2
      rw [← Fo.length_flat] at a3
      simp [flatL]; omega
    have hst := hx.pt.stlen
    simp only [List.length_cons] at hst
    have hst' : st.length = ts.length := by omega
    clear hx hF hgo hpl hrw hrow hhd hsl hslW
    by_cases hl : 0 < t.2.len
    · obtain ⟨b1, o1, rfl, hfo⟩ := HSL.out.at_ hl
      obtain ⟨cs, hcs, hcc⟩ := hfo.cellsOf
      have hcc' : ∀ j u, cs[j]? = some u → W.cell? ((⟨b1, o1, none⟩ : Addr).add j) = some u := fun j u hj => by
        have := hcc j u hj
        have h2 := (HX.out.below.cell (p := ⟨b1, o1 + j, none⟩) (World.block_lt_of_cell? w _ this)).trans this
        simpa [Addr.add_lit] using h2
      have hcl := hcs.length
      have hc1 := hcs.one
      have HCS := Lib.hid hcs
      have HCC := Lib.hid hcc'
      have HC1 := Lib.hid hc1
      clear hfo hcc hcc' hcs hc1
      generalize hlen : t.2.len = m at *
      have HL := Lib.hid hlen
      clear hlen
      gi_wp2_with (gi_at_builtin; refine wpListIn_append_own _ rfl (.const (.slice none 0 0)) (.tmp 10) 23 rfl W.heap.size 25 i0 _ 4 56 Try.underlying23 hi hz0 hz1 hz2 rfl (by decide) (.slice none 0 0) 0 [] rfl (World.ownsRow_nil _ _ _ _) ⟨b1, o1, none⟩ m cap1 cs rfl hcl HCC.out HC1.out (by unfold maxLen; omega) (by omega) (Nat.le_refl _) ?_; intro v' w1 hown hgrow _; simp only [Nat.zero_add, List.nil_append] at hown; obtain ⟨g, cp, cur, rfl, hgb, hgh, hgc, hgm, hgt⟩ := own_some hown hl; have e1 := hgrow.block p.1 hpl2 (by simp [Value.ownBlock]); have c3' := (cell_same e1 (p.2 + 3)).trans c3; have hf3' := (HRW.out.same e1).frozen (p.2 + 3); have HGT := Lib.hid hgt; clear hgt hown)
      have hglt := (Array.getElem?_eq_some_iff.1 hgh).1
      have hrg : RowB w1 g := ⟨cur, hgh⟩
      have hgp : g ≠ p.1 := by omega
      have hL := HL.out
      subst hL
      have hpend : PT (PendC w) (w1.setCell ⟨p.1, p.2 + 3, none⟩ (.slice (some ⟨g, 0, none⟩) t.2.len cp)) t.2 g 0 (kidsP g 0 t.2.len) t.2.toList [] := by
        refine HCS.out.pend (fun j u hj => ?_)
        exact (World.cell?_setCell_far w1 _ ⟨g, 0 + j, none⟩ _ (fun e => hgp e.symm)).trans (HGT.out j u hj)
      obtain ⟨r1, r2, r3, r4⟩ := HX.out.next HF.out HPL.out HGO.out HHD.out hgrow hgc hgm (.inr ⟨g, [], rfl, rfl, hrg.set _ _, hpend⟩) (flatL_toList t.2) (by intro c hc; simp at hc; subst hc; exact ⟨hgb, hglt⟩) (by simp)
      refine ⟨k - 1, _, g, 0, t.2.len, cp, _, r4, World.cell?_setCell_same' _ _ _ (by rw [c3']; rfl), fun _ => rfl, hgc, by omega, ⟨_, _, r1⟩, by simpa using r2, by simpa using r3⟩
    · have h0 : t.2.len = 0 := by omega
      have hnil : t.2 = .nil := by
        cases hx2 : t.2 with
        | nil => rfl
        | cons h k r => rw [hx2] at h0; simp [Fo.len] at h0
      have HL := Lib.hid h0
      have HN := Lib.hid hnil
      rw [h0] at c3
      clear h0 hl hnil
      cases q1 with
      | none =>
        gi_wp2
        obtain ⟨r1, r2, r3, r4⟩ := HX.out.next (w1 := W) (q' := none) (cp := 0) (kst := []) (kts := []) (G := []) HF.out HPL.out HGO.out HHD.out ⟨rfl, rfl, rfl, Nat.le_refl _, fun _ _ _ => rfl⟩ (by rw [HL.out]; exact Nat.le_refl _) (by unfold maxLen; omega) (.inl ⟨HL.out, rfl, rfl, rfl⟩) (by rw [HN.out]; rfl) (by simp) (by simp)
        simp only [HL.out] at r1 r2
        refine ⟨k - 1, _, 0, 0, 0, 0, _, r4, World.cell?_setCell_same' _ _ _ (by rw [c3]; rfl), fun h => by omega, Nat.le_refl _, by omega, ⟨_, _, r1⟩, by simpa using r2, by simpa using r3⟩
      | some ad =>
        gi_wp2_with (gi_at_builtin; refine wpListIn_append_own _ rfl (.const (.slice none 0 0)) (.tmp 10) 23 rfl W.heap.size 25 i0 _ 4 56 Try.underlying23 hi hz0 hz1 hz2 rfl (by decide) (.slice none 0 0) 0 [] rfl (World.ownsRow_nil _ _ _ _) ad 0 cap1 [] rfl rfl (by simp) (by simp) (by unfold maxLen; omega) (by omega) (Nat.le_refl _) ?_; intro v' w1 hown hgrow hnl; obtain rfl := hnl.2 ⟨rfl, rfl⟩; clear hnl hown; have e1 := hgrow.block p.1 hpl2 (by simp [Value.ownBlock]); have c3' := (cell_same e1 (p.2 + 3)).trans c3; have hf3' := (HRW.out.same e1).frozen (p.2 + 3))
        obtain ⟨r1, r2, r3, r4⟩ := HX.out.next (w1 := w1) (q' := none) (cp := 0) (kst := []) (kts := []) (G := []) HF.out HPL.out HGO.out HHD.out hgrow (by rw [HL.out]; exact Nat.le_refl _) (by unfold maxLen; omega) (.inl ⟨HL.out, rfl, rfl, rfl⟩) (by rw [HN.out]; rfl) (by simp) (by simp)
        simp only [HL.out] at r1 r2
        refine ⟨k - 1, _, 0, 0, 0, 0, _, r4, World.cell?_setCell_same' _ _ _ (by rw [c3']; rfl), fun h => by omega, Nat.le_refl _, by omega, ⟨_, _, r1⟩, by simpa using r2, by simpa using r3⟩
  case done =>
    rintro K k D W hK hDK ⟨ts, F, hx⟩ hKd
    have hp := hx.pt
    have hts : ts = [] := List.length_eq_zero_iff.1 hp.stlen.symm
    subst hts
    obtain ⟨s1, s2, t1, t2, G1, G2, f1, f2, f3, hr, hc⟩ := hp
    obtain ⟨rfl, rfl⟩ := List.append_eq_nil_iff.1 f1.symm
    obtain ⟨rfl, rfl⟩ := List.append_eq_nil_iff.1 f2.symm
    obtain ⟨_, _, rfl⟩ := hr
    rcases hc with ⟨x1, _⟩ | ⟨q', cap', hhd, hk⟩
    · cases x1
    have hown : OwnF W q' f F := by
      rcases hk with ⟨x1, _, _, x4⟩ | ⟨b', F', x1, x2, x3, hk⟩
      · exact .inl ⟨x1, by rw [f3, x4]; rfl⟩
      · exact .inr ⟨b', F', x1, by rw [f3, x2]; simp, x3, hk.any⟩
    have c0 := hhd.c0
    have c1 := hhd.c1
    have c2 := hhd.c2
    have c3 := hhd.c3
    have hres := hx.res
    have r0 : W.cell? ⟨w.heap.size + 1, 0, none⟩ = some (.int .u8 0) := by simp [World.cell?, hres]
    have r1 : W.cell? ⟨w.heap.size + 1, 1, none⟩ = some (.string ⟨#[]⟩) := by simp [World.cell?, hres]
    have r2 : W.cell? ⟨w.heap.size + 1, 2, none⟩ = some (.int .i64 0) := by simp [World.cell?, hres]
    have r3 : W.cell? ⟨w.heap.size + 1, 3, none⟩ = some (.slice none 0 0) := by simp [World.cell?, hres]
    have z0 : W.frozen? ⟨w.heap.size + 1, 0, none⟩ = false := by simp [World.frozen?, hres]
    have z1 : W.frozen? ⟨w.heap.size + 1, 1, none⟩ = false := by simp [World.frozen?, hres]
    have z2 : W.frozen? ⟨w.heap.size + 1, 2, none⟩ = false := by simp [World.frozen?, hres]
    have z3 : W.frozen? ⟨w.heap.size + 1, 3, none⟩ = false := by simp [World.frozen?, hres]
    have HX := Lib.hid hx
    have HO := Lib.hid hown
    have HHD := Lib.hid hhd
    clear hx hres hown hhd hk f3
    gi_wp2
    have hg := set4_grown W (w.heap.size + 1) (.int .u8 h.op) (.string h.name) (.int .i64 h.n) (.slice q' f.len cap')
    have hrow := set4_row HX.out.res (.int .u8 h.op) (.string h.name) (.int .i64 h.n) (.slice q' f.len cap')
    have hne : K ≠ w.heap.size + 1 := by simp at hK; omega
    have hKd' := (hg.block K (Array.getElem?_eq_some_iff.1 hKd).1 (by intro e; exact hne (Option.some.inj e))).trans hKd
    refine ⟨by simp, .inl ⟨_, _, rfl, run_takeDeferred hKd', ?_⟩⟩
    have hg2 := grownBy_putObj' (World.set4 W (w.heap.size + 1) (.int .u8 h.op) (.string h.name) (.int .i64 h.n) (.slice q' f.len cap')) K (.deferred none)
    have hrow2 := (hg2.block _ (Array.getElem?_eq_some_iff.1 hrow).1 (by intro e; exact hne (Option.some.inj e).symm)).trans hrow
    refine ⟨_, results_cell_row rfl _ _ _ _ _ _ (.struct _) rfl hrow2 Try.underlying25 rfl (by kernel_rfl), ?_⟩
    have hlt2 := (Array.getElem?_eq_some_iff.1 hKd).1
    have hroom := HX.out.room
    have hKne : ∀ c ∈ F, c ≠ K := fun c hc e => hDK (e ▸ HX.out.d2 c hc)
    have hFk : ∀ c ∈ F, ((World.set4 W (w.heap.size + 1) (.int .u8 h.op) (.string h.name) (.int .i64 h.n) (.slice q' f.len cap')).putObj K (.deferred none)).heap[c]? = W.heap[c]? := fun c hc =>
      (hg2.block c (by have := hg.size; have := HX.out.lt c hc; omega) (by intro e; exact hKne c hc (Option.some.inj e))).trans (hg.block c (HX.out.lt c hc) (by intro e; have := Option.some.inj e; have := HX.out.big c hc; omega))
    have hnd := HX.out.nd
    rw [List.nodup_cons] at hnd
    refine ⟨q', cap', F, rfl, HHD.out.lc, HHD.out.cm, HO.out.keep hFk, hnd.2, fun c hc => ⟨by have := HX.out.big c hc; omega, ?_⟩, ?_⟩
    · have := HX.out.lt c hc; have := hg.size; have := hg2.size; exact Nat.lt_of_lt_of_le (HX.out.lt c hc) (Nat.le_trans hg.size hg2.size)
    · exact (HX.out.below.grown hg HX.out.below.size (fun r e => by cases e; omega)).grown hg2 (Nat.le_trans HX.out.below.size hg.size) (fun r e => by cases e; simp at hK; omega)
  case stop =>
    rintro K c D W _ _ hx _
    exact hx.elim

end Go.Proofs.Ytcjhgefkbnbmnaa
