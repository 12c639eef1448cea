/- A term that a call makes, node by node: plain words on memory. -/
import Derived.Test.YtcjhgefkbnbmnaaPTmI
namespace Go.Proofs.Ytcjhgefkbnbmnaa
open Go.RowKit LM
set_option linter.unusedVariables false

abbrev TPendT := World → Nat → Nat → TH → TF → List Nat → Prop
/-- What a node that is still to come hangs on. -/
def TLocP (Pend : TPendT) : Prop := ∀ w w' b o h k F, Pend w b o h k F → (∀ i, o ≤ i → i < o + 10 → w'.cell? ⟨b, i, none⟩ = w.cell? ⟨b, i, none⟩) → (∀ c ∈ F, w'.heap[c]? = w.heap[c]?) →
  Pend w' b o h k F

/-- The terms f at (b, o), some nodes of them still to come: these lie at st, and are ts. -/
def TPT (Pend : TPendT) (w : World) : TF → Nat → Nat → List Pl → List (TH × TF) → List Nat → Prop
  | .nil, _, _, st, ts, F => st = [] ∧ ts = [] ∧ F = []
  | .cons h k r, b, o, st, ts, F => ∃ st1 st2 ts1 ts2 F1 F2, st = st1 ++ st2 ∧ ts = ts1 ++ ts2 ∧ F = F1 ++ F2 ∧ TPT Pend w r b (o + 10) st2 ts2 F2 ∧
      ((st1 = [(b, o)] ∧ ts1 = [(h, k)] ∧ Pend w b o h k F1) ∨
       (∃ qa ca q cap Fa Fk, F1 = Fa ++ Fk ∧ THAt w b o h qa ca q k.len cap ∧ (OwnF w qa h.ak Fa ∧ h.ak.len ≤ ca ∧ ca ≤ maxLen) ∧
          ((k.len = 0 ∧ st1 = [] ∧ ts1 = [] ∧ Fk = []) ∨ (∃ b' F', q = some ⟨b', 0, none⟩ ∧ Fk = b' :: F' ∧ RowT w b' ∧ TPT Pend w k b' 0 st1 ts1 F'))))

theorem TPT.keep {Pend : TPendT} (hl : TLocP Pend) {w w' : World} : ∀ {f : TF} {b o : Nat} {st : List Pl} {ts : List (TH × TF)} {F : List Nat}, TPT Pend w f b o st ts F →
    (∀ i, o ≤ i → w'.cell? ⟨b, i, none⟩ = w.cell? ⟨b, i, none⟩) → (∀ c ∈ F, w'.heap[c]? = w.heap[c]?) → TPT Pend w' f b o st ts F
  | .nil, _, _, _, _, _, h, _, _ => h
  | .cons h k r, b, o, st, ts, F, ⟨st1, st2, ts1, ts2, F1, F2, e1, e2, e3, hr, hc⟩, he, hF => by
    subst e3
    refine ⟨st1, st2, ts1, ts2, F1, F2, e1, e2, rfl, hr.keep hl (fun i hi => he i (by omega)) (fun c hc => hF c (by simp [hc])), ?_⟩
    rcases hc with ⟨a1, a2, a3⟩ | ⟨qa, ca, q, cap, Fa, Fk, rfl, hh, ha, hk⟩
    · exact .inl ⟨a1, a2, hl _ _ _ _ _ _ _ a3 (fun i h1 h2 => he i h1) (fun c hc => hF c (by simp [hc]))⟩
    · refine .inr ⟨qa, ca, q, cap, Fa, Fk, rfl, hh.cells (fun i h1 h2 => he i h1), ⟨ha.1.keep (fun c hc => hF c (by simp [hc])), ha.2⟩, ?_⟩
      rcases hk with hk | ⟨b', F', rfl, rfl, hrow, hk⟩
      · exact .inl hk
      · have eb := hF b' (by simp)
        exact .inr ⟨b', F', rfl, rfl, hrow.same eb, hk.keep hl (fun i _ => cell_same eb i) (fun c hc => hF c (by simp [hc]))⟩

/-- A node that has been come to. -/
def TVis (Pend : TPendT) (w : World) (p : Pl) (h : TH) (k : TF) (kst : List Pl) (kts : List (TH × TF)) (F1 : List Nat) : Prop :=
  ∃ qa ca q cap Fa Fk, F1 = Fa ++ Fk ∧ THAt w p.1 p.2 h qa ca q k.len cap ∧ (OwnF w qa h.ak Fa ∧ h.ak.len ≤ ca ∧ ca ≤ maxLen) ∧
    ((k.len = 0 ∧ kst = [] ∧ kts = [] ∧ Fk = []) ∨ ∃ b' F', q = some ⟨b', 0, none⟩ ∧ Fk = b' :: F' ∧ RowT w b' ∧ TPT Pend w k b' 0 kst kts F')

theorem TPT.ts_nil {Pend : TPendT} {w : World} : ∀ {f : TF} {b o : Nat} {ts : List (TH × TF)} {F : List Nat}, TPT Pend w f b o [] ts F → ts = [] := by
  intro f
  induction f with
  | nil => intro b o ts F h; exact h.2.1
  | cons h k r ihk ihr =>
    intro b o ts F ⟨s1, s2, t1, t2, G1, G2, f1, f2, f3, hr, hc⟩
    obtain ⟨rfl, rfl⟩ := List.append_eq_nil_iff.1 f1.symm
    rw [f2, ihr hr]
    rcases hc with ⟨x1, _⟩ | ⟨_, _, _, _, _, _, _, _, _, hk⟩
    · cases x1
    · rcases hk with ⟨_, _, x3, _⟩ | ⟨_, _, _, _, _, hk⟩
      · rw [x3]; rfl
      · rw [ihk hk]; rfl
theorem TPT.st_nil {Pend : TPendT} {w : World} : ∀ {f : TF} {b o : Nat} {st : List Pl} {F : List Nat}, TPT Pend w f b o st [] F → st = [] := by
  intro f
  induction f with
  | nil => intro b o ts F h; exact h.1
  | cons h k r ihk ihr =>
    intro b o ts F ⟨s1, s2, t1, t2, G1, G2, f1, f2, f3, hr, hc⟩
    obtain ⟨rfl, rfl⟩ := List.append_eq_nil_iff.1 f2.symm
    rw [f1, ihr hr]
    rcases hc with ⟨_, x1, _⟩ | ⟨_, _, _, _, _, _, _, _, _, hk⟩
    · cases x1
    · rcases hk with ⟨_, x3, _, _⟩ | ⟨_, _, _, _, _, hk⟩
      · rw [x3]; rfl
      · rw [ihk hk]; rfl

/-- The next node is come to: what it says of memory, and how the whole goes on. -/
theorem TPT.step {Pend : TPendT} (hl : TLocP Pend) {w : World} : ∀ {f : TF} {b o : Nat} {p : Pl} {st : List Pl} {t : TH × TF} {ts : List (TH × TF)} {F : List Nat}, TPT Pend w f b o (p :: st) (t :: ts) F → (b :: F).Nodup →
    ∃ Fp A B, F = A ++ Fp ++ B ∧ Pend w p.1 p.2 t.1 t.2 Fp ∧ ((p.1 = b ∧ o ≤ p.2) ∨ p.1 ∈ A) ∧ (RowT w b → RowT w p.1) ∧
      ∀ (w' : World) (kst : List Pl) (kts : List (TH × TF)) (F1 : List Nat), (∀ i, i < p.2 ∨ p.2 + 10 ≤ i → w'.cell? ⟨p.1, i, none⟩ = w.cell? ⟨p.1, i, none⟩) →
        (∀ c ∈ b :: (A ++ B), c ≠ p.1 → w'.heap[c]? = w.heap[c]?) → (RowT w p.1 → RowT w' p.1) → TVis Pend w' p t.1 t.2 kst kts F1 → TPT Pend w' f b o (kst ++ st) (kts ++ ts) (A ++ F1 ++ B)
  | .nil, _, _, _, _, _, _, _, h, _ => by cases h.1
  | .cons h k r, b, o, p, st, t, ts, F, ⟨st1, st2, ts1, ts2, F1, F2, e1, e2, e3, hr, hc⟩, hnd => by
    subst e3
    have hnd' := hnd
    rw [List.nodup_cons, List.nodup_append] at hnd'
    obtain ⟨hb, n1, n2, n3⟩ := hnd'
    have onR : st1 = [] → ts1 = [] → ∃ Fp A B, F1 ++ F2 = A ++ Fp ++ B ∧ Pend w p.1 p.2 t.1 t.2 Fp ∧ ((p.1 = b ∧ o + 10 ≤ p.2) ∨ p.1 ∈ A) ∧ (∀ c ∈ F1, c ∈ A) ∧ (∀ c ∈ F1, c ≠ p.1) ∧ (RowT w b → RowT w p.1) ∧ ∃ A2, A = F1 ++ A2 ∧
        ∀ (w' : World) (kst : List Pl) (kts : List (TH × TF)) (G : List Nat), (∀ i, i < p.2 ∨ p.2 + 10 ≤ i → w'.cell? ⟨p.1, i, none⟩ = w.cell? ⟨p.1, i, none⟩) →
        (∀ c ∈ b :: (A2 ++ B), c ≠ p.1 → w'.heap[c]? = w.heap[c]?) → (RowT w p.1 → RowT w' p.1) → TVis Pend w' p t.1 t.2 kst kts G → TPT Pend w' r b (o + 10) (kst ++ st) (kts ++ ts) (A2 ++ G ++ B) := by
      intro hs ht
      subst hs ht
      simp only [List.nil_append] at e1 e2
      subst e1 e2
      obtain ⟨Fp, A, B, e, hp, hpl, hrw, hgo⟩ := TPT.step hl hr (List.nodup_cons.2 ⟨fun hx => hb (by simp [hx]), n2⟩)
      refine ⟨Fp, F1 ++ A, B, by rw [e]; simp, hp, ?_, fun c hc => by simp [hc], ?_, hrw, A, rfl, hgo⟩
      · rcases hpl with h1 | h1
        · exact .inl h1
        · exact .inr (by simp [h1])
      · intro c hc ec
        rcases hpl with h1 | h1
        · exact hb (by rw [← h1.1, ← ec]; simp [hc])
        · exact n3 c hc p.1 (by rw [e]; simp [h1]) ec
    rcases hc with ⟨a1, a2, a3⟩ | ⟨qa, ca, q, cap, Fa, Fk, hFk, hh, ha, hk⟩
    · -- it is this node
      subst a1 a2
      simp only [List.singleton_append, List.cons.injEq] at e1 e2
      obtain ⟨rfl, rfl⟩ := e1
      obtain ⟨rfl, rfl⟩ := e2
      refine ⟨F1, [], F2, rfl, a3, .inl ⟨rfl, Nat.le_refl _⟩, id, ?_⟩
      intro w' kst kts G hcell hblk hrow hv
      refine ⟨kst, st, kts, ts, G, F2, rfl, rfl, rfl, hr.keep hl (fun i hi => hcell i (.inr hi)) (fun c hc => hblk c (by simp [hc]) (fun e => hb (by have e' : c = b := e; rw [← e']; simp [hc]))), .inr hv⟩
    · have rest : ∀ (sk : st1 = []) (tk : ts1 = []) (hk2 : ∀ w' : World, (∀ c ∈ Fk, w'.heap[c]? = w.heap[c]?) → (k.len = 0 ∧ ([] : List Pl) = [] ∧ ([] : List (TH × TF)) = [] ∧ Fk = []) ∨ (∃ b' F', q = some ⟨b', 0, none⟩ ∧ Fk = b' :: F' ∧ RowT w' b' ∧ TPT Pend w' k b' 0 [] [] F')), ∃ Fp A B, F1 ++ F2 = A ++ Fp ++ B ∧ Pend w p.1 p.2 t.1 t.2 Fp ∧ ((p.1 = b ∧ o ≤ p.2) ∨ p.1 ∈ A) ∧ (RowT w b → RowT w p.1) ∧
          ∀ (w' : World) (kst : List Pl) (kts : List (TH × TF)) (G : List Nat), (∀ i, i < p.2 ∨ p.2 + 10 ≤ i → w'.cell? ⟨p.1, i, none⟩ = w.cell? ⟨p.1, i, none⟩) →
            (∀ c ∈ b :: (A ++ B), c ≠ p.1 → w'.heap[c]? = w.heap[c]?) → (RowT w p.1 → RowT w' p.1) → TVis Pend w' p t.1 t.2 kst kts G → TPT Pend w' (.cons h k r) b o (kst ++ st) (kts ++ ts) (A ++ G ++ B) := by
        intro sk tk hk2
        obtain ⟨Fp, A, B, e, hp, hpl, _, hne, hrw, A2, rfl, hgo⟩ := onR sk tk
        refine ⟨Fp, F1 ++ A2, B, e, hp, hpl.imp (fun h1 => ⟨h1.1, by omega⟩) id, hrw, ?_⟩
        intro w' kst kts G hcell hblk hrow hv
        have kp : ∀ c ∈ F1, w'.heap[c]? = w.heap[c]? := fun c hc => hblk c (List.mem_cons_of_mem _ (by rw [List.append_assoc]; exact List.mem_append_left _ hc)) (hne c hc)
        refine ⟨[], kst ++ st, [], kts ++ ts, F1, A2 ++ G ++ B, rfl, rfl, by simp, hgo w' kst kts G hcell (fun c hc h2 => hblk c (by
            rcases List.mem_cons.1 hc with h | h
            · exact h ▸ List.mem_cons_self
            · exact List.mem_cons_of_mem _ (by rw [List.append_assoc]; exact List.mem_append_right _ h)) h2) hrow hv, .inr ⟨qa, ca, q, cap, Fa, Fk, hFk, ?_, ⟨ha.1.keep (fun c hc => kp c (by rw [hFk]; simp [hc])), ha.2⟩, hk2 w' (fun c hc => kp c (by rw [hFk]; simp [hc]))⟩⟩
        by_cases e' : p.1 = b
        · rcases hpl with h1 | h1
          · refine hh.cells fun i h2 h3 => ?_
            rw [← e']; exact hcell i (.inl (by omega))
          · exfalso; apply hb; rw [e, ← e']; exact List.mem_append_left _ (List.mem_append_left _ h1)
        · exact hh.same (hblk b (by simp) (fun h => e' h.symm))
      rcases hk with ⟨hk0, hs1, ht1, hF0⟩ | ⟨b', F', hq, hFk2, hrowb, hk⟩
      · exact rest hs1 ht1 (fun w' _ => .inl ⟨hk0, rfl, rfl, hF0⟩)
      · cases st1 with
        | nil =>
          have hts1 : ts1 = [] := hk.ts_nil
          subst hts1
          refine rest rfl rfl (fun w' kp => .inr ⟨b', F', hq, hFk2, hrowb.same (kp b' (by rw [hFk2]; simp)), hk.keep hl (fun i _ => cell_same (kp b' (by rw [hFk2]; simp)) i) (fun c hc => kp c (by rw [hFk2]; simp [hc]))⟩)
        | cons p' st1 =>
          cases ts1 with
          | nil => exact absurd hk.st_nil (by simp)
          | cons t' ts1 =>
            simp only [List.cons_append, List.cons.injEq] at e1 e2
            obtain ⟨rfl, rfl⟩ := e1
            obtain ⟨rfl, rfl⟩ := e2
            subst hq hFk2 hFk
            obtain ⟨m1, m2, m3⟩ := List.nodup_append.1 n1
            obtain ⟨Fp, A, B, rfl, hp, hpl, hrw, hgo⟩ := TPT.step hl hk m2
            have hpb : p.1 ∈ b' :: A := by
              rcases hpl with h1 | h1
              · rw [h1.1]; simp
              · simp [h1]
            have hpF : p.1 ∈ b' :: (A ++ Fp ++ B) := by
              rcases List.mem_cons.1 hpb with h | h
              · rw [h]; simp
              · simp [h]
            have hpF1 : p.1 ∈ Fa ++ b' :: (A ++ Fp ++ B) := List.mem_append_right _ hpF
            have hne : b ≠ p.1 := fun e => hb (by rw [e]; exact List.mem_append_left _ hpF1)
            have hne2 : ∀ c ∈ F2, c ≠ p.1 := fun c hc e => n3 p.1 hpF1 c hc e.symm
            have hne3 : ∀ c ∈ Fa, c ≠ p.1 := fun c hc e => m3 c hc p.1 hpF e
            refine ⟨Fp, Fa ++ b' :: A, B ++ F2, by simp, hp, .inr (List.mem_append_right _ hpb), fun _ => hrw hrowb, ?_⟩
            intro w' kst kts G hcell hblk hrow hv
            refine ⟨kst ++ st1, st2, kts ++ ts1, ts2, Fa ++ b' :: (A ++ G ++ B), F2, by simp, by simp, by simp, hr.keep hl (fun i _ => cell_same (hblk b (by simp) hne) i) (fun c hc => hblk c (by simp [hc]) (hne2 c hc)),
              .inr ⟨qa, ca, _, cap, Fa, b' :: (A ++ G ++ B), rfl, hh.same (hblk b (by simp) hne), ⟨ha.1.keep (fun c hc => hblk c (by simp [hc]) (hne3 c hc)), ha.2⟩, .inr ⟨b', _, rfl, rfl, ?_, hgo w' kst kts G hcell (fun c hc h2 => hblk c ?_ h2) hrow hv⟩⟩⟩
            · by_cases e' : b' = p.1
              · rw [e'] at hrowb ⊢; exact hrow hrowb
              · exact hrowb.same (hblk b' (by simp) e')
            · rcases List.mem_cons.1 hc with h | h
              · rw [h]; simp
              · rcases List.mem_append.1 h with h | h <;> simp [h]

/-- Nothing is still to come. -/
abbrev TPendN : TPendT := fun _ _ _ _ _ _ => False
theorem TPT.any {Pend Pend' : TPendT} {w : World} : ∀ {f : TF} {b o : Nat} {ts : List (TH × TF)} {F : List Nat}, TPT Pend w f b o [] ts F → TPT Pend' w f b o [] [] F
  | .nil, _, _, _, _, h => ⟨rfl, rfl, h.2.2⟩
  | .cons h k r, b, o, ts, F, ⟨s1, s2, t1, t2, G1, G2, f1, f2, f3, hr, hc⟩ => by
    obtain ⟨rfl, rfl⟩ := List.append_eq_nil_iff.1 f1.symm
    refine ⟨[], [], [], [], G1, G2, rfl, rfl, f3, hr.any, ?_⟩
    rcases hc with ⟨x1, _⟩ | ⟨qa, ca, q, cap, Fa, Fk, e, hh, ha, hk⟩
    · cases x1
    · refine .inr ⟨qa, ca, q, cap, Fa, Fk, e, hh, ha, ?_⟩
      rcases hk with ⟨x1, _, _, x4⟩ | ⟨b', F', x1, x2, x3, hk⟩
      · exact .inl ⟨x1, rfl, rfl, x4⟩
      · exact .inr ⟨b', F', x1, x2, x3, hk.any⟩
theorem TPT.fo {Pend : TPendT} {w : World} : ∀ {f : TF} {b o : Nat} {ts : List (TH × TF)} {F : List Nat}, TPT Pend w f b o [] ts F → TFAt w f b o
  | .nil, _, _, _, _, h => trivial
  | .cons h k r, b, o, ts, F, ⟨s1, s2, t1, t2, G1, G2, f1, f2, f3, hr, hc⟩ => by
    obtain ⟨rfl, rfl⟩ := List.append_eq_nil_iff.1 f1.symm
    rcases hc with ⟨x1, _⟩ | ⟨qa, ca, q, cap, Fa, Fk, e, hh, ha, hk⟩
    · cases x1
    · refine ⟨qa, ca, q, cap, hh, ha.1.slF ha.2.1 ha.2.2, fun h0 => ?_, hr.fo⟩
      rcases hk with ⟨x1, _⟩ | ⟨b', F', rfl, rfl, x3, hk⟩
      · omega
      · exact ⟨b', 0, rfl, hk.fo⟩
theorem TPT.stlen {Pend : TPendT} {w : World} : ∀ {f : TF} {b o : Nat} {st : List Pl} {ts : List (TH × TF)} {F : List Nat}, TPT Pend w f b o st ts F → st.length = ts.length
  | .nil, _, _, _, _, _, h => by rw [h.1, h.2.1]; rfl
  | .cons h k r, b, o, st, ts, F, ⟨s1, s2, t1, t2, G1, G2, f1, f2, f3, hr, hc⟩ => by
    rw [f1, f2, List.length_append, List.length_append, hr.stlen]
    rcases hc with ⟨x1, x2, _⟩ | ⟨qa, ca, q, cap, Fa, Fk, e, hh, ha, hk⟩
    · rw [x1, x2]; rfl
    · rcases hk with ⟨_, x1, x2, _⟩ | ⟨b', F', _, _, _, hk⟩
      · rw [x1, x2]; rfl
      · rw [hk.stlen]

/-- The call's own term: its Kids. -/
def TOwn (w : World) (q : Option Addr) (f : TF) (F : List Nat) : Prop :=
  (f.len = 0 ∧ F = []) ∨ ∃ b' F', q = some ⟨b', 0, none⟩ ∧ F = b' :: F' ∧ RowT w b' ∧ TPT TPendN w f b' 0 [] [] F'
theorem TOwn.tsl {w : World} {q : Option Addr} {f : TF} {F : List Nat} {cap : Nat} (h : TOwn w q f F) (hl : f.len ≤ cap) (hc : cap ≤ maxLen) : TSl w q cap f := by
  refine ⟨hl, hc, fun h0 => ?_⟩
  rcases h with ⟨h1, _⟩ | ⟨b', F', rfl, _, _, hp⟩
  · omega
  · exact ⟨b', 0, rfl, hp.fo⟩
theorem TOwn.keep {w w' : World} {q : Option Addr} {f : TF} {F : List Nat} (h : TOwn w q f F) (hF : ∀ c ∈ F, w'.heap[c]? = w.heap[c]?) : TOwn w' q f F := by
  rcases h with h | ⟨b', F', rfl, rfl, hr, hp⟩
  · exact .inl h
  · have eb := hF b' (by simp)
    exact .inr ⟨b', F', rfl, rfl, hr.same eb, hp.keep (fun _ _ _ _ _ _ _ h _ _ => h) (fun i _ => cell_same eb i) (fun c hc => hF c (by simp [hc]))⟩
end Go.Proofs.Ytcjhgefkbnbmnaa
