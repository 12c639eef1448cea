/- A tree that a call makes, part by part: plain words on memory. -/
import Derived.Test.YtmjijmkdeblefaaKdF
namespace Go.Proofs.Ytmjijmkdeblefaa
open Go.RowKit
set_option linter.unusedVariables false

/-- Block b is a row of types, none of its cells frozen. -/
def RowB (w : World) (b : Nat) : Prop := ∃ cs, w.heap[b]? = some (.cells cs 25 (0, 0))
theorem RowB.same {w w' : World} {b : Nat} (h : RowB w b) (e : w'.heap[b]? = w.heap[b]?) : RowB w' b := by obtain ⟨cs, h⟩ := h; exact ⟨cs, e.trans h⟩
theorem RowB.lt {w : World} {b : Nat} (h : RowB w b) : b < w.heap.size := by obtain ⟨cs, h⟩ := h; exact (Array.getElem?_eq_some_iff.1 h).1
theorem RowB.frozen {w : World} {b : Nat} (h : RowB w b) (o : Nat) : w.frozen? ⟨b, o, none⟩ = false := by obtain ⟨cs, h⟩ := h; simp [World.frozen?, h]
theorem RowB.set {w : World} {b : Nat} (h : RowB w b) (a : Addr) (v : Value) : RowB (w.setCell a v) b := by
  obtain ⟨cs, h⟩ := h
  obtain ⟨hlt, hk⟩ := Array.getElem?_eq_some_iff.1 h
  by_cases e : a.block = b
  · subst e
    show ∃ cs', (w.heap.modify a.block _)[a.block]? = some (.cells cs' 25 (0, 0))
    rw [Array.getElem?_eq_getElem (by rw [Array.size_modify]; exact hlt), Array.getElem_modify_self, hk]
    exact ⟨_, rfl⟩
  · exact ⟨cs, (Below.heap_setCell _ _ _ b (fun h => e h.symm)).trans h⟩

abbrev PendT := World → Nat → Nat → Hd → Fo → List Nat → Prop
/-- What a part that is still to come hangs on. -/
def LocP (Pend : PendT) : Prop := ∀ w w' b o h k F, Pend w b o h k F → (∀ i, o ≤ i → i < o + 4 → w'.cell? ⟨b, i, none⟩ = w.cell? ⟨b, i, none⟩) → (∀ c ∈ F, w'.heap[c]? = w.heap[c]?) →
  Pend w' b o h k F

/-- The trees f at (b, o), some parts of them still to come: these lie at st, and are ts. -/
def PT (Pend : PendT) (w : World) : Fo → Nat → Nat → List Pl → List (Hd × Fo) → List Nat → Prop
  | .nil, _, _, st, ts, F => st = [] ∧ ts = [] ∧ F = []
  | .cons h k r, b, o, st, ts, F => ∃ st1 st2 ts1 ts2 F1 F2, st = st1 ++ st2 ∧ ts = ts1 ++ ts2 ∧ F = F1 ++ F2 ∧ PT Pend w r b (o + 4) st2 ts2 F2 ∧
      ((st1 = [(b, o)] ∧ ts1 = [(h, k)] ∧ Pend w b o h k F1) ∨
       (∃ q cap, HdAt w b o h q k.len cap ∧ ((k.len = 0 ∧ st1 = [] ∧ ts1 = [] ∧ F1 = []) ∨ (∃ b' F', q = some ⟨b', 0, none⟩ ∧ F1 = b' :: F' ∧ RowB w b' ∧ PT Pend w k b' 0 st1 ts1 F'))))

theorem HdAt.cells {w w' : World} {b o : Nat} {h : Hd} {q : Option Addr} {len cap : Nat} (hh : HdAt w b o h q len cap) (e : ∀ i, o ≤ i → i < o + 4 → w'.cell? ⟨b, i, none⟩ = w.cell? ⟨b, i, none⟩) : HdAt w' b o h q len cap :=
  ⟨(e o (by omega) (by omega)).trans hh.c0, (e (o + 1) (by omega) (by omega)).trans hh.c1, (e (o + 2) (by omega) (by omega)).trans hh.c2, (e (o + 3) (by omega) (by omega)).trans hh.c3, hh.lc, hh.cm⟩
theorem cell_same {w w' : World} {b : Nat} (e : w'.heap[b]? = w.heap[b]?) (i : Nat) : w'.cell? ⟨b, i, none⟩ = w.cell? ⟨b, i, none⟩ := World.cell?_of_block (a := ⟨b, i, none⟩) e

theorem PT.keep {Pend : PendT} (hl : LocP Pend) {w w' : World} : ∀ {f : Fo} {b o : Nat} {st : List Pl} {ts : List (Hd × Fo)} {F : List Nat}, PT Pend w f b o st ts F →
    (∀ i, o ≤ i → w'.cell? ⟨b, i, none⟩ = w.cell? ⟨b, i, none⟩) → (∀ c ∈ F, w'.heap[c]? = w.heap[c]?) → PT Pend w' f b o st ts F
  | .nil, _, _, _, _, _, h, _, _ => h
  | .cons h k r, b, o, st, ts, F, ⟨st1, st2, ts1, ts2, F1, F2, e1, e2, e3, hr, hc⟩, he, hF => by
    subst e3
    refine ⟨st1, st2, ts1, ts2, F1, F2, e1, e2, rfl, hr.keep hl (fun i hi => he i (by omega)) (fun c hc => hF c (by simp [hc])), ?_⟩
    rcases hc with ⟨a1, a2, a3⟩ | ⟨q, cap, hh, hk⟩
    · exact .inl ⟨a1, a2, hl _ _ _ _ _ _ _ a3 (fun i h1 h2 => he i h1) (fun c hc => hF c (by simp [hc]))⟩
    · refine .inr ⟨q, cap, hh.cells (fun i h1 h2 => he i h1), ?_⟩
      rcases hk with hk | ⟨b', F', rfl, rfl, hrow, hk⟩
      · exact .inl hk
      · have eb := hF b' (by simp)
        exact .inr ⟨b', F', rfl, rfl, hrow.same eb, hk.keep hl (fun i _ => cell_same eb i) (fun c hc => hF c (by simp [hc]))⟩

/-- A part that has been come to. -/
def Vis (Pend : PendT) (w : World) (p : Pl) (h : Hd) (k : Fo) (kst : List Pl) (kts : List (Hd × Fo)) (F1 : List Nat) : Prop :=
  ∃ q cap, HdAt w p.1 p.2 h q k.len cap ∧ ((k.len = 0 ∧ kst = [] ∧ kts = [] ∧ F1 = []) ∨ ∃ b' F', q = some ⟨b', 0, none⟩ ∧ F1 = b' :: F' ∧ RowB w b' ∧ PT Pend w k b' 0 kst kts F')

/-- The next part is come to: what it says of memory, and how the whole goes on. -/
theorem PT.step {Pend : PendT} (hl : LocP Pend) {w : World} : ∀ {f : Fo} {b o : Nat} {p : Pl} {st : List Pl} {t : Hd × Fo} {ts : List (Hd × Fo)} {F : List Nat}, PT Pend w f b o (p :: st) (t :: ts) F → (b :: F).Nodup →
    ∃ Fp A B, F = A ++ Fp ++ B ∧ Pend w p.1 p.2 t.1 t.2 Fp ∧ ((p.1 = b ∧ o ≤ p.2) ∨ p.1 ∈ A) ∧ (RowB w b → RowB w p.1) ∧
      ∀ (w' : World) (kst : List Pl) (kts : List (Hd × Fo)) (F1 : List Nat), (∀ i, i < p.2 ∨ p.2 + 4 ≤ i → w'.cell? ⟨p.1, i, none⟩ = w.cell? ⟨p.1, i, none⟩) →
        (∀ c ∈ b :: (A ++ B), c ≠ p.1 → w'.heap[c]? = w.heap[c]?) → (RowB w p.1 → RowB w' p.1) → Vis Pend w' p t.1 t.2 kst kts F1 → PT Pend w' f b o (kst ++ st) (kts ++ ts) (A ++ F1 ++ B)
  | .nil, _, _, _, _, _, _, _, h, _ => by cases h.1
  | .cons h k r, b, o, p, st, t, ts, F, ⟨st1, st2, ts1, ts2, F1, F2, e1, e2, e3, hr, hc⟩, hnd => by
    subst e3
    have hnd' := hnd
    rw [List.nodup_cons, List.nodup_append] at hnd'
    obtain ⟨hb, n1, n2, n3⟩ := hnd'
    have onR : st1 = [] → ts1 = [] → ∃ Fp A B, F1 ++ F2 = A ++ Fp ++ B ∧ Pend w p.1 p.2 t.1 t.2 Fp ∧ ((p.1 = b ∧ o + 4 ≤ p.2) ∨ p.1 ∈ A) ∧ (∀ c ∈ F1, c ∈ A) ∧ (∀ c ∈ F1, c ≠ p.1) ∧ (RowB w b → RowB w p.1) ∧ ∃ A2, A = F1 ++ A2 ∧
        ∀ (w' : World) (kst : List Pl) (kts : List (Hd × Fo)) (G : List Nat), (∀ i, i < p.2 ∨ p.2 + 4 ≤ i → w'.cell? ⟨p.1, i, none⟩ = w.cell? ⟨p.1, i, none⟩) →
        (∀ c ∈ b :: (A2 ++ B), c ≠ p.1 → w'.heap[c]? = w.heap[c]?) → (RowB w p.1 → RowB w' p.1) → Vis Pend w' p t.1 t.2 kst kts G → PT Pend w' r b (o + 4) (kst ++ st) (kts ++ ts) (A2 ++ G ++ B) := by
      intro hs ht
      subst hs ht
      simp only [List.nil_append] at e1 e2
      subst e1 e2
      obtain ⟨Fp, A, B, e, hp, hpl, hrw, hgo⟩ := PT.step hl hr (List.nodup_cons.2 ⟨fun hx => hb (by simp [hx]), n2⟩)
      refine ⟨Fp, F1 ++ A, B, by rw [e]; simp, hp, ?_, fun c hc => by simp [hc], ?_, hrw, A, rfl, hgo⟩
      · rcases hpl with h1 | h1
        · exact .inl h1
        · exact .inr (by simp [h1])
      · intro c hc ec
        rcases hpl with h1 | h1
        · exact hb (by rw [← h1.1, ← ec]; simp [hc])
        · exact n3 c hc p.1 (by rw [e]; simp [h1]) ec
    rcases hc with ⟨a1, a2, a3⟩ | ⟨q, cap, hh, hk⟩
    · -- it is this part
      subst a1 a2
      simp only [List.singleton_append, List.cons.injEq] at e1 e2
      obtain ⟨rfl, rfl⟩ := e1
      obtain ⟨rfl, rfl⟩ := e2
      refine ⟨F1, [], F2, rfl, a3, .inl ⟨rfl, Nat.le_refl _⟩, id, ?_⟩
      intro w' kst kts G hcell hblk hrow hv
      refine ⟨kst, st, kts, ts, G, F2, rfl, rfl, rfl, hr.keep hl (fun i hi => hcell i (.inr hi)) (fun c hc => hblk c (by simp [hc]) (fun e => hb (by have e' : c = b := e; rw [← e']; simp [hc]))), .inr hv⟩
    · rcases hk with ⟨hk0, rfl, rfl, rfl⟩ | ⟨b', F', rfl, rfl, hrowb, hk⟩
      · obtain ⟨Fp, A, B, e, hp, hpl, _, _, hrw, A2, hA2, hgo⟩ := onR rfl rfl
        have hA : A2 = A := by simpa using hA2.symm
        subst hA
        refine ⟨Fp, A2, B, by simpa using e, hp, ?_, hrw, ?_⟩
        · rcases hpl with h1 | h1
          · exact .inl ⟨h1.1, by omega⟩
          · exact .inr (by simpa using h1)
        · intro w' kst kts G hcell hblk hrow hv
          refine ⟨[], kst ++ st, [], kts ++ ts, [], A2 ++ G ++ B, rfl, rfl, rfl, hgo w' kst kts G hcell hblk hrow hv, .inr ⟨q, cap, ?_, .inl ⟨hk0, rfl, rfl, rfl⟩⟩⟩
          by_cases e' : p.1 = b
          · rcases hpl with h1 | h1
            · refine hh.cells fun i h2 h3 => ?_
              rw [← e']; exact hcell i (.inl (by omega))
            · exfalso; apply hb; rw [e, ← e']; exact List.mem_append_left _ (List.mem_append_left _ h1)
          · exact hh.same (hblk b (by simp) (fun h => e' h.symm))
      · cases st1 with
        | nil =>
          have hts1 : ts1 = [] := by
            have : ∀ {f : Fo} {b o : Nat} {ts : List (Hd × Fo)} {F : List Nat}, PT Pend w f b o [] ts F → ts = [] := by
              intro f
              induction f with
              | nil => intro b o ts F h; exact h.2.1
              | cons h k r ihk ihr =>
                intro b o ts F ⟨s1, s2, t1, t2, G1, G2, f1, f2, f3, hr, hc⟩
                obtain ⟨rfl, rfl⟩ := List.append_eq_nil_iff.1 f1.symm
                rw [f2, ihr hr]
                rcases hc with ⟨x1, _⟩ | ⟨q, cap, _, hk⟩
                · cases x1
                · rcases hk with ⟨_, _, x3, _⟩ | ⟨_, _, _, _, _, hk⟩
                  · rw [x3]; rfl
                  · rw [ihk hk]; rfl
            exact this hk
          subst hts1
          obtain ⟨Fp, A, B, e, hp, hpl, _, hne, hrw, A2, rfl, hgo⟩ := onR rfl rfl
          refine ⟨Fp, (b' :: F') ++ A2, B, e, hp, hpl.imp (fun h1 => ⟨h1.1, by omega⟩) id, hrw, ?_⟩
          intro w' kst kts G hcell hblk hrow hv
          have kp : ∀ c ∈ b' :: F', w'.heap[c]? = w.heap[c]? := fun c hc => hblk c (List.mem_cons_of_mem _ (by rw [List.append_assoc]; exact List.mem_append_left _ hc)) (hne c hc)
          refine ⟨[], kst ++ st, [], kts ++ ts, b' :: F', A2 ++ G ++ B, rfl, rfl, by simp, hgo w' kst kts G hcell (fun c hc h2 => hblk c (by
              rcases List.mem_cons.1 hc with h | h
              · exact h ▸ List.mem_cons_self
              · exact List.mem_cons_of_mem _ (by rw [List.append_assoc]; exact List.mem_append_right _ h)) h2) hrow hv, .inr ⟨_, cap, ?_, .inr ⟨b', F', rfl, rfl, hrowb.same (kp b' (by simp)), hk.keep hl (fun i _ => cell_same (kp b' (by simp)) i) (fun c hc => kp c (by simp [hc]))⟩⟩⟩
          by_cases e' : p.1 = b
          · rcases hpl with h1 | h1
            · refine hh.cells fun i h2 h3 => ?_
              rw [← e']; exact hcell i (.inl (by omega))
            · exfalso; apply hb; rw [e, ← e']; exact List.mem_append_left _ (List.mem_append_left _ h1)
          · exact hh.same (hblk b (by simp) (fun h => e' h.symm))
        | cons p' st1 =>
          cases ts1 with
          | nil =>
            exfalso
            have : ∀ {f : Fo} {b o : Nat} {st : List Pl} {F : List Nat}, PT Pend w f b o st [] F → st = [] := by
              intro f
              induction f with
              | nil => intro b o ts F h; exact h.1
              | cons h k r ihk ihr =>
                intro b o ts F ⟨s1, s2, t1, t2, G1, G2, f1, f2, f3, hr, hc⟩
                obtain ⟨rfl, rfl⟩ := List.append_eq_nil_iff.1 f2.symm
                rw [f1, ihr hr]
                rcases hc with ⟨_, x1, _⟩ | ⟨q, cap, _, hk⟩
                · cases x1
                · rcases hk with ⟨_, x3, _, _⟩ | ⟨_, _, _, _, _, hk⟩
                  · rw [x3]; rfl
                  · rw [ihk hk]; rfl
            have := this hk
            cases this
          | cons t' ts1 =>
            simp only [List.cons_append, List.cons.injEq] at e1 e2
            obtain ⟨rfl, rfl⟩ := e1
            obtain ⟨rfl, rfl⟩ := e2
            obtain ⟨Fp, A, B, rfl, hp, hpl, hrw, hgo⟩ := PT.step hl hk n1
            have hpb : p.1 ∈ b' :: A := by
              rcases hpl with h1 | h1
              · rw [h1.1]; simp
              · simp [h1]
            have hpF : p.1 ∈ b' :: (A ++ Fp ++ B) := by
              rcases List.mem_cons.1 hpb with h | h
              · rw [h]; simp
              · simp [h]
            have hne : b ≠ p.1 := fun e => hb (by rw [e]; exact List.mem_append_left _ hpF)
            have hne2 : ∀ c ∈ F2, c ≠ p.1 := fun c hc e => n3 p.1 hpF c hc e.symm
            refine ⟨Fp, b' :: A, B ++ F2, by simp, hp, .inr hpb, fun _ => hrw hrowb, ?_⟩
            intro w' kst kts G hcell hblk hrow hv
            refine ⟨kst ++ st1, st2, kts ++ ts1, ts2, b' :: (A ++ G ++ B), F2, by simp, by simp, by simp, hr.keep hl (fun i _ => cell_same (hblk b (by simp) hne) i) (fun c hc => hblk c (by simp [hc]) (hne2 c hc)),
              .inr ⟨_, cap, hh.same (hblk b (by simp) hne), .inr ⟨b', _, rfl, rfl, ?_, hgo w' kst kts G hcell (fun c hc h2 => hblk c ?_ h2) hrow hv⟩⟩⟩
            · by_cases e' : b' = p.1
              · rw [e'] at hrowb ⊢; exact hrow hrowb
              · exact hrowb.same (hblk b' (by simp) e')
            · rcases List.mem_cons.1 hc with h | h
              · rw [h]; simp
              · rcases List.mem_append.1 h with h | h <;> simp [h]

end Go.Proofs.Ytmjijmkdeblefaa
