/- Size, sound: loops over parts that only read. -/
import Derived.RangeFuncBox
import Derived.BigQuiet
import Derived.Maps.OwnSet
import Derived.Maps.OwnOps
import Derived.Maps.OwnIn
import Derived.Test.YtcjhgefkbnbmnaaPKdE
import Derived.Test.YtcjhgefkbnbmnaaPB
namespace Go.Proofs.Ytcjhgefkbnbmnaa
open Go.RowKit Go.Shelf LM
set_option linter.unusedVariables false
attribute [local go_sem] Oper.semAt_some

/-- The places st hold the parts ts, one each (a part and its Kids). -/
def StAt (w : World) : List Pl → List (Hd × Fo) → Prop
  | [], [] => True
  | p :: st, t :: ts => (∃ q cap, HdAt w p.1 p.2 t.1 q t.2.len cap ∧ SlF w q cap t.2) ∧ StAt w st ts
  | _, _ => False
theorem StAt.append {w : World} : ∀ {st st' : List Pl} {ts ts' : List (Hd × Fo)}, StAt w st ts → StAt w st' ts' → StAt w (st ++ st') (ts ++ ts')
  | [], _, [], _, _, h => h
  | _ :: _, _, _ :: _, _, ⟨h1, h2⟩, h => ⟨h1, StAt.append h2 h⟩
  | [], _, _ :: _, _, h, _ => h.elim
  | _ :: _, _, [], _, h, _ => h.elim
theorem StAt.nil_iff {w : World} {ts : List (Hd × Fo)} (h : StAt w [] ts) : ts = [] := by
  cases ts with
  | nil => rfl
  | cons t ts => exact h.elim
theorem StAt.len {w : World} : ∀ {st : List Pl} {ts : List (Hd × Fo)}, StAt w st ts → st.length = ts.length
  | [], [], _ => rfl
  | _ :: _, _ :: _, ⟨_, h⟩ => by simp [StAt.len h]
  | [], _ :: _, h => h.elim
  | _ :: _, [], h => h.elim
theorem FoAt.st {w : World} : ∀ {f : Fo} {b o : Nat}, FoAt w f b o → StAt w (kidsP b o f.len) f.toList
  | .nil, _, _, _ => trivial
  | .cons h k r, b, o, ⟨q, cap, hh, hk, hr⟩ => by
    rw [Fo.len, kidsP_succ]
    exact ⟨⟨q, cap, hh, hh.lc, hh.cm, hk⟩, FoAt.st hr⟩

/-- What is still to come of the parts ts. -/
def flatL : List (Hd × Fo) → List (Hd × Fo)
  | [] => []
  | t :: ts => t :: (t.2.flat ++ flatL ts)
theorem flatL_append (a b : List (Hd × Fo)) : flatL (a ++ b) = flatL a ++ flatL b := by
  induction a with
  | nil => rfl
  | cons t a ih => simp [flatL, ih]
theorem flatL_toList (f : Fo) : flatL f.toList = f.flat := by
  induction f with
  | nil => rfl
  | cons h k r _ hr => simp [Fo.toList, flatL, Fo.flat, hr]
theorem flatL_len (ts : List (Hd × Fo)) : ts.length ≤ (flatL ts).length := by
  induction ts with
  | nil => exact Nat.le_refl _
  | cons t ts ih => simp [flatL]; omega
def okL (ts : List (Hd × Fo)) : Prop := ∀ t ∈ ts, t.1.ok ∧ t.2.ok
theorem Fo.ok_list {f : Fo} (h : f.ok) : okL f.toList := by
  induction f with
  | nil => intro t ht; cases ht
  | cons h' k r _ hr =>
    intro t ht
    rcases List.mem_cons.1 ht with rfl | h2
    · exact ⟨h.1, h.2.1⟩
    · exact hr h.2.2 t h2

/-- How a body that leaves the tree alone may be left. -/
def rPost (n₀ : Nat) (w1 : World) (A : List (Hd × Fo) → (Nat → Prop) → World → Prop) (Ax : Code → List (Hd × Fo) → (Nat → Prop) → World → Prop) (pre : List (Hd × Fo)) (D : Nat → Prop) (W : World) : Exit → Act → World → Prop
  | .normal, _, W' => ∃ D', Tch n₀ D D' W W' ∧ Below w1.heap.size W W' ∧ A pre D' W'
  | .ret, _, W' => ∃ D', Tch n₀ D D' W W' ∧ Below w1.heap.size W W' ∧ Ax .ret pre D' W'
  | .exit id, _, W' => ∃ D', Tch n₀ D D' W W' ∧ Below w1.heap.size W W' ∧ Ax (.exit id) pre D' W'
  | .goto t, _, W' => ∃ D', Tch n₀ D D' W W' ∧ Below w1.heap.size W W' ∧ Ax (.goto t) pre D' W'
  | .panic _, _, _ => False
  | .outgrown, _, _ => False

variable {F : Fence} {n : Nat}

theorem range_read {g : Operand} {ps : Array Tmp} {assign body : Code} {Q : Exit → Act → World → Prop} {a : Act} {w : World}
    (hro : F.round = none) (hn : 2 ≤ n) {Bn : Nat} (hg : a.eval g = .func (.func 88) #[] #[.pointer (some ⟨Bn, 0, none⟩)]) (h66 : F.fn 88) (root : Pl) (hBn : w.cell? ⟨Bn, 0, none⟩ = some (.pointer (some ⟨root.1, root.2, none⟩))) (hps : ps.size = 1)
    (w1 : World) (h1 : Below w1.heap.size w1 w) (t : Hd × Fo) (ht : StAt w1 [root] [t]) (hok : okL [t]) (hsz : (flatL [t]).length ≤ 1099511627776)
    (A : List (Hd × Fo) → (Nat → Prop) → World → Prop) (Ax : Code → List (Hd × Fo) → (Nat → Prop) → World → Prop)
    (hA : ∀ pre D X Y row, A pre D X → X.grownBy Y row → (∀ r, row = some r → w.heap.size ≤ r ∧ ¬ D r) → A pre D Y)
    (hAx : ∀ c pre D X Y row, Ax c pre D X → X.grownBy Y row → (∀ r, row = some r → w.heap.size ≤ r ∧ ¬ D r) → Ax c pre D Y)
    (h0 : A [] (fun _ => False) w) (a₁ : Pl → Act)
    (hassign : ∀ (l : Nat) (p : Pl) (W : World) (K : Act → World → Prop), K (a₁ p) W →
      assign.wpIn (F.inRound l) (n - 1 - 1) Try.prog (Exit.then K (fun _ _ _ => False)) { tmps := (ps.zip #[Value.pointer (some ⟨p.1, p.2, none⟩)]).foldl (fun t (p, v) => t.setIfInBounds p v) a.tmps, defers := [] } W)
    (hbody : ∀ (l : Nat) (pre : List (Hd × Fo)) (x : Hd × Fo) (rest : List (Hd × Fo)) (p : Pl) (D : Nat → Prop) (W : World), flatL [t] = pre ++ x :: rest → Below w1.heap.size w1 W → (∃ q cap, HdAt W p.1 p.2 x.1 q x.2.len cap ∧ SlF W q cap x.2) → p.1 < w1.heap.size →
      x.1.ok → x.2.ok → w.heap.size ≤ W.heap.size → (∀ b, D b → b < W.heap.size) → A pre D W → body.wpIn (F.inRound l) (n - 1 - 1) Try.prog (rPost w.heap.size w1 A Ax (pre ++ [x]) D W) (a₁ p) W)
    (hdone : ∀ (K : Nat) (D : Nat → Prop) (W : World), w.heap.size ≤ K → ¬ D K → Below w1.heap.size w1 W → A (flatL [t]) D W → W.heap[K]? = some (.deferred (some [])) → Q .normal { a with defers := { target := .collected K, args := #[] } :: a.defers } W)
    (hstop : ∀ (K : Nat) (c : Code) (pre rest : List (Hd × Fo)) (D : Nat → Prop) (W : World), w.heap.size ≤ K → ¬ D K → flatL [t] = pre ++ rest → Below w1.heap.size w1 W → Ax c pre D W → W.heap[K]? = some (.deferred (some [])) → c.wpIn F n Try.prog Q { a with defers := { target := .collected K, args := #[] } :: a.defers } W) :
    (Code.rangeFunc g ps assign body).wpIn F n Try.prog Q a w := by
  have hgb : ∀ {X Y : World} {row : Option Nat} {D : Nat → Prop}, Below w1.heap.size w1 X → X.grownBy Y row → (∀ r, row = some r → w.heap.size ≤ r ∧ ¬ D r) → Below w1.heap.size w1 Y := fun hB hg hr =>
    hB.grown hg hB.size (fun k e => Nat.le_trans h1.size (hr k e).1)
  refine range_parts hro hn hg h66 root hBn hps
    (fun k st D W => ∃ pre ts, flatL [t] = pre ++ flatL ts ∧ k = (flatL ts).length ∧ StAt w1 st ts ∧ okL ts ∧ Below w1.heap.size w1 W ∧ A pre D W)
    (fun c D W => ∃ pre rest, flatL [t] = pre ++ rest ∧ Below w1.heap.size w1 W ∧ Ax c pre D W)
    ?_ ?_ (flatL [t]).length ⟨[], [t], rfl, rfl, ht, hok, h1, h0⟩ a₁ hassign ?_ ?_ ?_
  · rintro k st D X Y row ⟨pre, ts, e1, e2, e3, e4, e5, e6⟩ hg hr
    exact ⟨pre, ts, e1, e2, e3, e4, hgb e5 hg hr, hA _ _ _ _ _ e6 hg hr⟩
  · rintro c D X Y row ⟨pre, rest, e1, e2, e3⟩ hg hr
    exact ⟨pre, rest, e1, hgb e2 hg hr, hAx _ _ _ _ _ _ e3 hg hr⟩
  · rintro l k p st D W hW hD ⟨pre, ts, e1, e2, e3, e4, e5, e6⟩
    cases ts with
    | nil => exact e3.elim
    | cons x ts =>
      obtain ⟨⟨q, cap, hh, hs⟩, e3⟩ := e3
      have hx := e4 x (by simp)
      have hlt := hh.lt
      refine wpIn_mono (hbody l pre x (x.2.flat ++ flatL ts) p D W e1 e5 ⟨q, cap, hh.same (e5.block _ hlt), hs.below e5⟩ hlt hx.1 hx.2 hW hD e6) ?_
      have hsm : x.2.len + st.length ≤ 1099511627776 := by
        have a1 := e3.len
        have a2 := flatL_len ts
        have a3 := Fo.len_le_size x.2
        rw [← Fo.length_flat] at a3
        have a4 : (flatL [t]).length = pre.length + (1 + (x.2.flat.length + (flatL ts).length)) := by rw [e1]; simp [flatL]; omega
        omega
      rintro e a3 W3 hp
      cases e with
      | normal =>
        obtain ⟨D', hT, hB, hA'⟩ := hp
        have hc : W3.cell? ⟨p.1, p.2 + 3, none⟩ = some (.slice q x.2.len cap) := ((e5.trans hB).cell (p := ⟨p.1, p.2 + 3, none⟩) hlt).trans hh.c3
        by_cases hl : 0 < x.2.len
        · obtain ⟨b, o, rfl, hfo⟩ := hs.at_ hl
          refine ⟨(x.2.flat ++ flatL ts).length, _, b, o, x.2.len, cap, D', by rw [e2]; simp [flatL], hc, fun _ => rfl, hs.lc, hsm, ⟨pre ++ [x], x.2.toList ++ ts, ?_, ?_, hfo.st.append e3, ?_, e5.trans hB, hA'⟩, hT, .inl (Nat.lt_of_lt_of_le hlt h1.size)⟩
          · rw [e1, flatL_append, flatL_toList]; simp [flatL]
          · rw [flatL_append, flatL_toList]
          · intro y hy
            rcases List.mem_append.1 hy with h | h
            · exact Fo.ok_list hx.2 y h
            · exact e4 y (by simp [h])
        · have h0 : x.2.len = 0 := by omega
          have hnil : x.2 = .nil := by cases hx2 : x.2 with
            | nil => rfl
            | cons h k r => rw [hx2] at h0; simp [Fo.len] at h0
          refine ⟨(flatL ts).length, q, 0, 0, x.2.len, cap, D', by rw [e2]; simp [flatL]; omega, hc, fun h => by omega, hs.lc, hsm, ⟨pre ++ [x], ts, ?_, rfl, ?_, fun y hy => e4 y (by simp [hy]), e5.trans hB, hA'⟩, hT, .inl (Nat.lt_of_lt_of_le hlt h1.size)⟩
          · rw [e1]; simp [flatL, hnil, Fo.flat]
          · rw [h0]; exact e3
      | ret => obtain ⟨D', hT, hB, hA'⟩ := hp; exact ⟨D', hT, pre ++ [x], x.2.flat ++ flatL ts, by rw [e1]; simp [flatL], e5.trans hB, hA'⟩
      | exit id => obtain ⟨D', hT, hB, hA'⟩ := hp; exact ⟨D', hT, pre ++ [x], x.2.flat ++ flatL ts, by rw [e1]; simp [flatL], e5.trans hB, hA'⟩
      | goto t' => obtain ⟨D', hT, hB, hA'⟩ := hp; exact ⟨D', hT, pre ++ [x], x.2.flat ++ flatL ts, by rw [e1]; simp [flatL], e5.trans hB, hA'⟩
      | panic ch => exact hp.elim
      | outgrown => exact hp.elim
  · rintro K k D W hK hDK ⟨pre, ts, e1, e2, e3, e4, e5, e6⟩ hW
    have := e3.nil_iff
    subst this
    refine hdone K D W hK hDK e5 ?_ hW
    rw [e1]; simpa [flatL] using e6
  · rintro K c D W hK hDK ⟨pre, rest, e1, e2, e3⟩ hW
    exact hstop K c pre rest D W hK hDK e1 e2 e3 hW

end Go.Proofs.Ytcjhgefkbnbmnaa

namespace Go.Proofs.Ytcjhgefkbnbmnaa
open Go.RowKit
set_option linter.unusedVariables false

/-- Block b is a row of types, none of its cells frozen. -/
def RowB (w : World) (b : Nat) : Prop := ∃ cs, w.heap[b]? = some (.cells cs 25 (0, 0))
theorem RowB.same {w w' : World} {b : Nat} (h : RowB w b) (e : w'.heap[b]? = w.heap[b]?) : RowB w' b := by obtain ⟨cs, h⟩ := h; exact ⟨cs, e.trans h⟩
theorem RowB.lt {w : World} {b : Nat} (h : RowB w b) : b < w.heap.size := by obtain ⟨cs, h⟩ := h; exact (Array.getElem?_eq_some_iff.1 h).1
theorem RowB.frozen {w : World} {b : Nat} (h : RowB w b) (o : Nat) : w.frozen? ⟨b, o, none⟩ = false := by obtain ⟨cs, h⟩ := h; simp [World.frozen?, h]
theorem RowB.set {w : World} {b : Nat} (h : RowB w b) (a : Addr) (v : Value) : RowB (w.setCell a v) b := by
  obtain ⟨cs, h⟩ := h
  obtain ⟨hlt, hk⟩ := Array.getElem?_eq_some_iff.1 h
  by_cases e : a.block = b
  · subst e
    show ∃ cs', (w.heap.modify a.block _)[a.block]? = some (.cells cs' 25 (0, 0))
    rw [Array.getElem?_eq_getElem (by rw [Array.size_modify]; exact hlt), Array.getElem_modify_self, hk]
    exact ⟨_, rfl⟩
  · exact ⟨cs, (Below.heap_setCell _ _ _ b (fun h => e h.symm)).trans h⟩

abbrev PendT := World → Nat → Nat → Hd → Fo → List Nat → Prop
/-- What a part that is still to come hangs on. -/
def LocP (Pend : PendT) : Prop := ∀ w w' b o h k F, Pend w b o h k F → (∀ i, o ≤ i → i < o + 4 → w'.cell? ⟨b, i, none⟩ = w.cell? ⟨b, i, none⟩) → (∀ c ∈ F, w'.heap[c]? = w.heap[c]?) →
  Pend w' b o h k F

/-- The trees f at (b, o), some parts of them still to come: these lie at st, and are ts. -/
def PT (Pend : PendT) (w : World) : Fo → Nat → Nat → List Pl → List (Hd × Fo) → List Nat → Prop
  | .nil, _, _, st, ts, F => st = [] ∧ ts = [] ∧ F = []
  | .cons h k r, b, o, st, ts, F => ∃ st1 st2 ts1 ts2 F1 F2, st = st1 ++ st2 ∧ ts = ts1 ++ ts2 ∧ F = F1 ++ F2 ∧ PT Pend w r b (o + 4) st2 ts2 F2 ∧
      ((st1 = [(b, o)] ∧ ts1 = [(h, k)] ∧ Pend w b o h k F1) ∨
       (∃ q cap, HdAt w b o h q k.len cap ∧ ((k.len = 0 ∧ st1 = [] ∧ ts1 = [] ∧ F1 = []) ∨ (∃ b' F', q = some ⟨b', 0, none⟩ ∧ F1 = b' :: F' ∧ RowB w b' ∧ PT Pend w k b' 0 st1 ts1 F'))))

theorem HdAt.cells {w w' : World} {b o : Nat} {h : Hd} {q : Option Addr} {len cap : Nat} (hh : HdAt w b o h q len cap) (e : ∀ i, o ≤ i → i < o + 4 → w'.cell? ⟨b, i, none⟩ = w.cell? ⟨b, i, none⟩) : HdAt w' b o h q len cap :=
  ⟨(e o (by omega) (by omega)).trans hh.c0, (e (o + 1) (by omega) (by omega)).trans hh.c1, (e (o + 2) (by omega) (by omega)).trans hh.c2, (e (o + 3) (by omega) (by omega)).trans hh.c3, hh.lc, hh.cm⟩
theorem cell_same {w w' : World} {b : Nat} (e : w'.heap[b]? = w.heap[b]?) (i : Nat) : w'.cell? ⟨b, i, none⟩ = w.cell? ⟨b, i, none⟩ := World.cell?_of_block (a := ⟨b, i, none⟩) e

theorem PT.keep {Pend : PendT} (hl : LocP Pend) {w w' : World} : ∀ {f : Fo} {b o : Nat} {st : List Pl} {ts : List (Hd × Fo)} {F : List Nat}, PT Pend w f b o st ts F →
    (∀ i, o ≤ i → w'.cell? ⟨b, i, none⟩ = w.cell? ⟨b, i, none⟩) → (∀ c ∈ F, w'.heap[c]? = w.heap[c]?) → PT Pend w' f b o st ts F
  | .nil, _, _, _, _, _, h, _, _ => h
  | .cons h k r, b, o, st, ts, F, ⟨st1, st2, ts1, ts2, F1, F2, e1, e2, e3, hr, hc⟩, he, hF => by
    subst e3
    refine ⟨st1, st2, ts1, ts2, F1, F2, e1, e2, rfl, hr.keep hl (fun i hi => he i (by omega)) (fun c hc => hF c (by simp [hc])), ?_⟩
    rcases hc with ⟨a1, a2, a3⟩ | ⟨q, cap, hh, hk⟩
    · exact .inl ⟨a1, a2, hl _ _ _ _ _ _ _ a3 (fun i h1 h2 => he i h1) (fun c hc => hF c (by simp [hc]))⟩
    · refine .inr ⟨q, cap, hh.cells (fun i h1 h2 => he i h1), ?_⟩
      rcases hk with hk | ⟨b', F', rfl, rfl, hrow, hk⟩
      · exact .inl hk
      · have eb := hF b' (by simp)
        exact .inr ⟨b', F', rfl, rfl, hrow.same eb, hk.keep hl (fun i _ => cell_same eb i) (fun c hc => hF c (by simp [hc]))⟩

/-- A part that has been come to. -/
def Vis (Pend : PendT) (w : World) (p : Pl) (h : Hd) (k : Fo) (kst : List Pl) (kts : List (Hd × Fo)) (F1 : List Nat) : Prop :=
  ∃ q cap, HdAt w p.1 p.2 h q k.len cap ∧ ((k.len = 0 ∧ kst = [] ∧ kts = [] ∧ F1 = []) ∨ ∃ b' F', q = some ⟨b', 0, none⟩ ∧ F1 = b' :: F' ∧ RowB w b' ∧ PT Pend w k b' 0 kst kts F')

/-- The next part is come to: what it says of memory, and how the whole goes on. -/
theorem PT.step {Pend : PendT} (hl : LocP Pend) {w : World} : ∀ {f : Fo} {b o : Nat} {p : Pl} {st : List Pl} {t : Hd × Fo} {ts : List (Hd × Fo)} {F : List Nat}, PT Pend w f b o (p :: st) (t :: ts) F → (b :: F).Nodup →
    ∃ Fp A B, F = A ++ Fp ++ B ∧ Pend w p.1 p.2 t.1 t.2 Fp ∧ ((p.1 = b ∧ o ≤ p.2) ∨ p.1 ∈ A) ∧ (RowB w b → RowB w p.1) ∧
      ∀ (w' : World) (kst : List Pl) (kts : List (Hd × Fo)) (F1 : List Nat), (∀ i, i < p.2 ∨ p.2 + 4 ≤ i → w'.cell? ⟨p.1, i, none⟩ = w.cell? ⟨p.1, i, none⟩) →
        (∀ c ∈ b :: (A ++ B), c ≠ p.1 → w'.heap[c]? = w.heap[c]?) → (RowB w p.1 → RowB w' p.1) → Vis Pend w' p t.1 t.2 kst kts F1 → PT Pend w' f b o (kst ++ st) (kts ++ ts) (A ++ F1 ++ B)
  | .nil, _, _, _, _, _, _, _, h, _ => by cases h.1
  | .cons h k r, b, o, p, st, t, ts, F, ⟨st1, st2, ts1, ts2, F1, F2, e1, e2, e3, hr, hc⟩, hnd => by
    subst e3
    have hnd' := hnd
    rw [List.nodup_cons, List.nodup_append] at hnd'
    obtain ⟨hb, n1, n2, n3⟩ := hnd'
    have onR : st1 = [] → ts1 = [] → ∃ Fp A B, F1 ++ F2 = A ++ Fp ++ B ∧ Pend w p.1 p.2 t.1 t.2 Fp ∧ ((p.1 = b ∧ o + 4 ≤ p.2) ∨ p.1 ∈ A) ∧ (∀ c ∈ F1, c ∈ A) ∧ (∀ c ∈ F1, c ≠ p.1) ∧ (RowB w b → RowB w p.1) ∧ ∃ A2, A = F1 ++ A2 ∧
        ∀ (w' : World) (kst : List Pl) (kts : List (Hd × Fo)) (G : List Nat), (∀ i, i < p.2 ∨ p.2 + 4 ≤ i → w'.cell? ⟨p.1, i, none⟩ = w.cell? ⟨p.1, i, none⟩) →
        (∀ c ∈ b :: (A2 ++ B), c ≠ p.1 → w'.heap[c]? = w.heap[c]?) → (RowB w p.1 → RowB w' p.1) → Vis Pend w' p t.1 t.2 kst kts G → PT Pend w' r b (o + 4) (kst ++ st) (kts ++ ts) (A2 ++ G ++ B) := by
      intro hs ht
      subst hs ht
      simp only [List.nil_append] at e1 e2
      subst e1 e2
      obtain ⟨Fp, A, B, e, hp, hpl, hrw, hgo⟩ := PT.step hl hr (List.nodup_cons.2 ⟨fun hx => hb (by simp [hx]), n2⟩)
      refine ⟨Fp, F1 ++ A, B, by rw [e]; simp, hp, ?_, fun c hc => by simp [hc], ?_, hrw, A, rfl, hgo⟩
      · rcases hpl with h1 | h1
        · exact .inl h1
        · exact .inr (by simp [h1])
      · intro c hc ec
        rcases hpl with h1 | h1
        · exact hb (by rw [← h1.1, ← ec]; simp [hc])
        · exact n3 c hc p.1 (by rw [e]; simp [h1]) ec
    rcases hc with ⟨a1, a2, a3⟩ | ⟨q, cap, hh, hk⟩
    · -- it is this part
      subst a1 a2
      simp only [List.singleton_append, List.cons.injEq] at e1 e2
      obtain ⟨rfl, rfl⟩ := e1
      obtain ⟨rfl, rfl⟩ := e2
      refine ⟨F1, [], F2, rfl, a3, .inl ⟨rfl, Nat.le_refl _⟩, id, ?_⟩
      intro w' kst kts G hcell hblk hrow hv
      refine ⟨kst, st, kts, ts, G, F2, rfl, rfl, rfl, hr.keep hl (fun i hi => hcell i (.inr hi)) (fun c hc => hblk c (by simp [hc]) (fun e => hb (by have e' : c = b := e; rw [← e']; simp [hc]))), .inr hv⟩
    · rcases hk with ⟨hk0, rfl, rfl, rfl⟩ | ⟨b', F', rfl, rfl, hrowb, hk⟩
      · obtain ⟨Fp, A, B, e, hp, hpl, _, _, hrw, A2, hA2, hgo⟩ := onR rfl rfl
        have hA : A2 = A := by simpa using hA2.symm
        subst hA
        refine ⟨Fp, A2, B, by simpa using e, hp, ?_, hrw, ?_⟩
        · rcases hpl with h1 | h1
          · exact .inl ⟨h1.1, by omega⟩
          · exact .inr (by simpa using h1)
        · intro w' kst kts G hcell hblk hrow hv
          refine ⟨[], kst ++ st, [], kts ++ ts, [], A2 ++ G ++ B, rfl, rfl, rfl, hgo w' kst kts G hcell hblk hrow hv, .inr ⟨q, cap, ?_, .inl ⟨hk0, rfl, rfl, rfl⟩⟩⟩
          by_cases e' : p.1 = b
          · rcases hpl with h1 | h1
            · refine hh.cells fun i h2 h3 => ?_
              rw [← e']; exact hcell i (.inl (by omega))
            · exfalso; apply hb; rw [e, ← e']; exact List.mem_append_left _ (List.mem_append_left _ h1)
          · exact hh.same (hblk b (by simp) (fun h => e' h.symm))
      · cases st1 with
        | nil =>
          have hts1 : ts1 = [] := by
            have : ∀ {f : Fo} {b o : Nat} {ts : List (Hd × Fo)} {F : List Nat}, PT Pend w f b o [] ts F → ts = [] := by
              intro f
              induction f with
              | nil => intro b o ts F h; exact h.2.1
              | cons h k r ihk ihr =>
                intro b o ts F ⟨s1, s2, t1, t2, G1, G2, f1, f2, f3, hr, hc⟩
                obtain ⟨rfl, rfl⟩ := List.append_eq_nil_iff.1 f1.symm
                rw [f2, ihr hr]
                rcases hc with ⟨x1, _⟩ | ⟨q, cap, _, hk⟩
                · cases x1
                · rcases hk with ⟨_, _, x3, _⟩ | ⟨_, _, _, _, _, hk⟩
                  · rw [x3]; rfl
                  · rw [ihk hk]; rfl
            exact this hk
          subst hts1
          obtain ⟨Fp, A, B, e, hp, hpl, _, hne, hrw, A2, rfl, hgo⟩ := onR rfl rfl
          refine ⟨Fp, (b' :: F') ++ A2, B, e, hp, hpl.imp (fun h1 => ⟨h1.1, by omega⟩) id, hrw, ?_⟩
          intro w' kst kts G hcell hblk hrow hv
          have kp : ∀ c ∈ b' :: F', w'.heap[c]? = w.heap[c]? := fun c hc => hblk c (List.mem_cons_of_mem _ (by rw [List.append_assoc]; exact List.mem_append_left _ hc)) (hne c hc)
          refine ⟨[], kst ++ st, [], kts ++ ts, b' :: F', A2 ++ G ++ B, rfl, rfl, by simp, hgo w' kst kts G hcell (fun c hc h2 => hblk c (by
              rcases List.mem_cons.1 hc with h | h
              · exact h ▸ List.mem_cons_self
              · exact List.mem_cons_of_mem _ (by rw [List.append_assoc]; exact List.mem_append_right _ h)) h2) hrow hv, .inr ⟨_, cap, ?_, .inr ⟨b', F', rfl, rfl, hrowb.same (kp b' (by simp)), hk.keep hl (fun i _ => cell_same (kp b' (by simp)) i) (fun c hc => kp c (by simp [hc]))⟩⟩⟩
          by_cases e' : p.1 = b
          · rcases hpl with h1 | h1
            · refine hh.cells fun i h2 h3 => ?_
              rw [← e']; exact hcell i (.inl (by omega))
            · exfalso; apply hb; rw [e, ← e']; exact List.mem_append_left _ (List.mem_append_left _ h1)
          · exact hh.same (hblk b (by simp) (fun h => e' h.symm))
        | cons p' st1 =>
          cases ts1 with
          | nil =>
            exfalso
            have : ∀ {f : Fo} {b o : Nat} {st : List Pl} {F : List Nat}, PT Pend w f b o st [] F → st = [] := by
              intro f
              induction f with
              | nil => intro b o ts F h; exact h.1
              | cons h k r ihk ihr =>
                intro b o ts F ⟨s1, s2, t1, t2, G1, G2, f1, f2, f3, hr, hc⟩
                obtain ⟨rfl, rfl⟩ := List.append_eq_nil_iff.1 f2.symm
                rw [f1, ihr hr]
                rcases hc with ⟨_, x1, _⟩ | ⟨q, cap, _, hk⟩
                · cases x1
                · rcases hk with ⟨_, x3, _, _⟩ | ⟨_, _, _, _, _, hk⟩
                  · rw [x3]; rfl
                  · rw [ihk hk]; rfl
            have := this hk
            cases this
          | cons t' ts1 =>
            simp only [List.cons_append, List.cons.injEq] at e1 e2
            obtain ⟨rfl, rfl⟩ := e1
            obtain ⟨rfl, rfl⟩ := e2
            obtain ⟨Fp, A, B, rfl, hp, hpl, hrw, hgo⟩ := PT.step hl hk n1
            have hpb : p.1 ∈ b' :: A := by
              rcases hpl with h1 | h1
              · rw [h1.1]; simp
              · simp [h1]
            have hpF : p.1 ∈ b' :: (A ++ Fp ++ B) := by
              rcases List.mem_cons.1 hpb with h | h
              · rw [h]; simp
              · simp [h]
            have hne : b ≠ p.1 := fun e => hb (by rw [e]; exact List.mem_append_left _ hpF)
            have hne2 : ∀ c ∈ F2, c ≠ p.1 := fun c hc e => n3 p.1 hpF c hc e.symm
            refine ⟨Fp, b' :: A, B ++ F2, by simp, hp, .inr hpb, fun _ => hrw hrowb, ?_⟩
            intro w' kst kts G hcell hblk hrow hv
            refine ⟨kst ++ st1, st2, kts ++ ts1, ts2, b' :: (A ++ G ++ B), F2, by simp, by simp, by simp, hr.keep hl (fun i _ => cell_same (hblk b (by simp) hne) i) (fun c hc => hblk c (by simp [hc]) (hne2 c hc)),
              .inr ⟨_, cap, hh.same (hblk b (by simp) hne), .inr ⟨b', _, rfl, rfl, ?_, hgo w' kst kts G hcell (fun c hc h2 => hblk c ?_ h2) hrow hv⟩⟩⟩
            · by_cases e' : b' = p.1
              · rw [e'] at hrowb ⊢; exact hrow hrowb
              · exact hrowb.same (hblk b' (by simp) e')
            · rcases List.mem_cons.1 hc with h | h
              · rw [h]; simp
              · rcases List.mem_append.1 h with h | h <;> simp [h]

end Go.Proofs.Ytcjhgefkbnbmnaa

namespace Go.Proofs.Ytcjhgefkbnbmnaa
open Go.RowKit Go.Shelf LM
set_option linter.unusedVariables false
attribute [local go_sem] Oper.semAt_some

theorem parts_any (p : Option Addr) (w : World) :
    Calls Try.prog 57 #[.pointer p] w fun e w' => e = .returned (.func (.func 88) #[] #[.pointer (some ⟨w.heap.size, 0, none⟩)]) ∧ w' = w.alloc (.cells #[.pointer p] 64) := by
  go_enter Try.func57, Try.ntmps57
  go_wp2
  go_ret
  exact ⟨rfl, rfl⟩

/-- A tree that came by value, in the box of a parameter. -/
theorem boxed_st (w : World) (h : Hd) (f : Fo) (q : Option Addr) (cap : Nat) (hf : SlF w q cap f) :
    StAt (w.alloc (.cells #[.int .u8 h.op, .string h.name, .int .i64 h.n, .slice q f.len cap] 25)) [(w.heap.size, 0)] [(h, f)] := by
  have hc : (w.alloc (.cells #[.int .u8 h.op, .string h.name, .int .i64 h.n, .slice q f.len cap] 25)).heap[w.heap.size]? = some (.cells #[.int .u8 h.op, .string h.name, .int .i64 h.n, .slice q f.len cap] 25 (0, 0)) := World.alloc_heap_new w _
  refine ⟨⟨q, cap, ⟨?_, ?_, ?_, ?_, hf.lc, hf.cm⟩, hf.below ((Below.refl _ _).alloc (Nat.le_refl _) _)⟩, trivial⟩ <;> (simp only [World.cell?, hc]; rfl)

theorem flatL_one (h : Hd) (f : Fo) : flatL [(h, f)] = (Fo.cons h f .nil).flat := by simp [flatL, Fo.flat]
theorem length_one (h : Hd) (f : Fo) : (flatL [(h, f)]).length = 1 + f.size := by rw [flatL_one, Fo.length_flat]; simp [Fo.size]

theorem below_put {B K : Nat} {w W : World} {o o' : Obj} (hb : Below B w W) (hK : W.heap[K]? = some o) (h : B ≤ K) : Below B w (W.putObj K o') :=
  hb.grown (grownBy_putObj' W K o') (by have := (Array.getElem?_eq_some_iff.1 hK).1; omega) (fun k e => by cases e; exact h)
theorem Tch.grown {n₀ : Nat} {D : Nat → Prop} {W W' : World} {row : Option Nat} (hg : W.grownBy W' row) (hr : ∀ r, row = some r → r < n₀ ∨ D r) : Tch n₀ D D W W' :=
  ⟨hg.size, fun b hb hlt hd => hg.block b hlt (fun e => (hr b e.symm).elim (fun h => by omega) hd), fun b h => .inl h, fun b h => h⟩
theorem Tch.set {n₀ : Nat} {D : Nat → Prop} {W : World} {b : Nat} (v : Value) (hb : b < n₀) : Tch n₀ D D W (W.setCell ⟨b, 0, none⟩ v) := .grown (grownBy_setCell' W b v) (fun r e => by cases e; exact .inl hb)

end Go.Proofs.Ytcjhgefkbnbmnaa
