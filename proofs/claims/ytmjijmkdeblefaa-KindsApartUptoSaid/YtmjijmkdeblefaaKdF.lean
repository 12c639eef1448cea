/- Size, sound: loops over parts that only read. -/
import Derived.Test.YtmjijmkdeblefaaKdE
import Derived.Test.YtmjijmkdeblefaaKdC
import Derived.RangeFuncBox
import Derived.BigQuiet
import Derived.Maps.OwnSet
import Derived.Maps.OwnOps
import Derived.Maps.OwnIn
namespace Go.Proofs.Ytmjijmkdeblefaa
open Go.RowKit Go.Shelf LM
set_option linter.unusedVariables false
attribute [local go_sem] Oper.semAt_some

/-- The places st hold the parts ts, one each (a part and its Kids). -/
def StAt (w : World) : List Pl → List (Hd × Fo) → Prop
  | [], [] => True
  | p :: st, t :: ts => (∃ q cap, HdAt w p.1 p.2 t.1 q t.2.len cap ∧ SlF w q cap t.2) ∧ StAt w st ts
  | _, _ => False
theorem StAt.below {w w' : World} (hb : Below w.heap.size w w') : ∀ {st : List Pl} {ts : List (Hd × Fo)}, StAt w st ts → StAt w' st ts
  | [], [], _ => trivial
  | p :: st, t :: ts, ⟨⟨q, cap, h1, h2⟩, h3⟩ => ⟨⟨q, cap, h1.same (hb.block _ h1.lt), h2.below hb⟩, StAt.below hb h3⟩
  | [], _ :: _, h => h.elim
  | _ :: _, [], h => h.elim
theorem StAt.append {w : World} : ∀ {st st' : List Pl} {ts ts' : List (Hd × Fo)}, StAt w st ts → StAt w st' ts' → StAt w (st ++ st') (ts ++ ts')
  | [], _, [], _, _, h => h
  | _ :: _, _, _ :: _, _, ⟨h1, h2⟩, h => ⟨h1, StAt.append h2 h⟩
  | [], _, _ :: _, _, h, _ => h.elim
  | _ :: _, _, [], _, h, _ => h.elim
theorem StAt.nil_iff {w : World} {ts : List (Hd × Fo)} (h : StAt w [] ts) : ts = [] := by
  cases ts with
  | nil => rfl
  | cons t ts => exact h.elim
theorem StAt.len {w : World} : ∀ {st : List Pl} {ts : List (Hd × Fo)}, StAt w st ts → st.length = ts.length
  | [], [], _ => rfl
  | _ :: _, _ :: _, ⟨_, h⟩ => by simp [StAt.len h]
  | [], _ :: _, h => h.elim
  | _ :: _, [], h => h.elim
theorem FoAt.st {w : World} : ∀ {f : Fo} {b o : Nat}, FoAt w f b o → StAt w (kidsP b o f.len) f.toList
  | .nil, _, _, _ => trivial
  | .cons h k r, b, o, ⟨q, cap, hh, hk, hr⟩ => by
    rw [Fo.len, kidsP_succ]
    exact ⟨⟨q, cap, hh, hh.lc, hh.cm, hk⟩, FoAt.st hr⟩

/-- What is still to come of the parts ts. -/
def flatL : List (Hd × Fo) → List (Hd × Fo)
  | [] => []
  | t :: ts => t :: (t.2.flat ++ flatL ts)
theorem flatL_append (a b : List (Hd × Fo)) : flatL (a ++ b) = flatL a ++ flatL b := by
  induction a with
  | nil => rfl
  | cons t a ih => simp [flatL, ih]
theorem flatL_toList (f : Fo) : flatL f.toList = f.flat := by
  induction f with
  | nil => rfl
  | cons h k r _ hr => simp [Fo.toList, flatL, Fo.flat, hr]
theorem flatL_len (ts : List (Hd × Fo)) : ts.length ≤ (flatL ts).length := by
  induction ts with
  | nil => exact Nat.le_refl _
  | cons t ts ih => simp [flatL]; omega
def okL (ts : List (Hd × Fo)) : Prop := ∀ t ∈ ts, t.1.ok ∧ t.2.ok
theorem Fo.ok_list {f : Fo} (h : f.ok) : okL f.toList := by
  induction f with
  | nil => intro t ht; cases ht
  | cons h' k r _ hr =>
    intro t ht
    rcases List.mem_cons.1 ht with rfl | h2
    · exact ⟨h.1, h.2.1⟩
    · exact hr h.2.2 t h2

/-- How a body that leaves the tree alone may be left. -/
def rPost (n₀ : Nat) (w1 : World) (A : List (Hd × Fo) → (Nat → Prop) → World → Prop) (Ax : Code → List (Hd × Fo) → (Nat → Prop) → World → Prop) (pre : List (Hd × Fo)) (D : Nat → Prop) (W : World) : Exit → Act → World → Prop
  | .normal, _, W' => ∃ D', Tch n₀ D D' W W' ∧ Below w1.heap.size W W' ∧ A pre D' W'
  | .ret, _, W' => ∃ D', Tch n₀ D D' W W' ∧ Below w1.heap.size W W' ∧ Ax .ret pre D' W'
  | .exit id, _, W' => ∃ D', Tch n₀ D D' W W' ∧ Below w1.heap.size W W' ∧ Ax (.exit id) pre D' W'
  | .goto t, _, W' => ∃ D', Tch n₀ D D' W W' ∧ Below w1.heap.size W W' ∧ Ax (.goto t) pre D' W'
  | .panic _, _, _ => False
  | .outgrown, _, _ => False

variable {F : Fence} {n : Nat}

theorem range_read {g : Operand} {ps : Array Tmp} {assign body : Code} {Q : Exit → Act → World → Prop} {a : Act} {w : World}
    (hro : F.round = none) (hn : 2 ≤ n) {Bn : Nat} (hg : a.eval g = .func (.func 88) #[] #[.pointer (some ⟨Bn, 0, none⟩)]) (h66 : F.fn 88) (root : Pl) (hBn : w.cell? ⟨Bn, 0, none⟩ = some (.pointer (some ⟨root.1, root.2, none⟩))) (hps : ps.size = 1)
    (w1 : World) (h1 : Below w1.heap.size w1 w) (t : Hd × Fo) (ht : StAt w1 [root] [t]) (hok : okL [t]) (hsz : (flatL [t]).length ≤ 1099511627776)
    (A : List (Hd × Fo) → (Nat → Prop) → World → Prop) (Ax : Code → List (Hd × Fo) → (Nat → Prop) → World → Prop)
    (hA : ∀ pre D X Y row, A pre D X → X.grownBy Y row → (∀ r, row = some r → w.heap.size ≤ r ∧ ¬ D r) → A pre D Y)
    (hAx : ∀ c pre D X Y row, Ax c pre D X → X.grownBy Y row → (∀ r, row = some r → w.heap.size ≤ r ∧ ¬ D r) → Ax c pre D Y)
    (h0 : A [] (fun _ => False) w) (a₁ : Pl → Act)
    (hassign : ∀ (l : Nat) (p : Pl) (W : World) (K : Act → World → Prop), K (a₁ p) W →
      assign.wpIn (F.inRound l) (n - 1 - 1) Try.prog (Exit.then K (fun _ _ _ => False)) { tmps := (ps.zip #[Value.pointer (some ⟨p.1, p.2, none⟩)]).foldl (fun t (p, v) => t.setIfInBounds p v) a.tmps, defers := [] } W)
    (hbody : ∀ (l : Nat) (pre : List (Hd × Fo)) (x : Hd × Fo) (rest : List (Hd × Fo)) (p : Pl) (D : Nat → Prop) (W : World), flatL [t] = pre ++ x :: rest → Below w1.heap.size w1 W → (∃ q cap, HdAt W p.1 p.2 x.1 q x.2.len cap ∧ SlF W q cap x.2) → p.1 < w1.heap.size →
      x.1.ok → x.2.ok → w.heap.size ≤ W.heap.size → (∀ b, D b → b < W.heap.size) → A pre D W → body.wpIn (F.inRound l) (n - 1 - 1) Try.prog (rPost w.heap.size w1 A Ax (pre ++ [x]) D W) (a₁ p) W)
    (hdone : ∀ (K : Nat) (D : Nat → Prop) (W : World), w.heap.size ≤ K → ¬ D K → Below w1.heap.size w1 W → A (flatL [t]) D W → W.heap[K]? = some (.deferred (some [])) → Q .normal { a with defers := { target := .collected K, args := #[] } :: a.defers } W)
    (hstop : ∀ (K : Nat) (c : Code) (pre rest : List (Hd × Fo)) (D : Nat → Prop) (W : World), w.heap.size ≤ K → ¬ D K → flatL [t] = pre ++ rest → Below w1.heap.size w1 W → Ax c pre D W → W.heap[K]? = some (.deferred (some [])) → c.wpIn F n Try.prog Q { a with defers := { target := .collected K, args := #[] } :: a.defers } W) :
    (Code.rangeFunc g ps assign body).wpIn F n Try.prog Q a w := by
  have hgb : ∀ {X Y : World} {row : Option Nat} {D : Nat → Prop}, Below w1.heap.size w1 X → X.grownBy Y row → (∀ r, row = some r → w.heap.size ≤ r ∧ ¬ D r) → Below w1.heap.size w1 Y := fun hB hg hr =>
    hB.grown hg hB.size (fun k e => Nat.le_trans h1.size (hr k e).1)
  refine range_parts hro hn hg h66 root hBn hps
    (fun k st D W => ∃ pre ts, flatL [t] = pre ++ flatL ts ∧ k = (flatL ts).length ∧ StAt w1 st ts ∧ okL ts ∧ Below w1.heap.size w1 W ∧ A pre D W)
    (fun c D W => ∃ pre rest, flatL [t] = pre ++ rest ∧ Below w1.heap.size w1 W ∧ Ax c pre D W)
    ?_ ?_ (flatL [t]).length ⟨[], [t], rfl, rfl, ht, hok, h1, h0⟩ a₁ hassign ?_ ?_ ?_
  · rintro k st D X Y row ⟨pre, ts, e1, e2, e3, e4, e5, e6⟩ hg hr
    exact ⟨pre, ts, e1, e2, e3, e4, hgb e5 hg hr, hA _ _ _ _ _ e6 hg hr⟩
  · rintro c D X Y row ⟨pre, rest, e1, e2, e3⟩ hg hr
    exact ⟨pre, rest, e1, hgb e2 hg hr, hAx _ _ _ _ _ _ e3 hg hr⟩
  · rintro l k p st D W hW hD ⟨pre, ts, e1, e2, e3, e4, e5, e6⟩
    cases ts with
    | nil => exact e3.elim
    | cons x ts =>
      obtain ⟨⟨q, cap, hh, hs⟩, e3⟩ := e3
      have hx := e4 x (by simp)
      have hlt := hh.lt
      refine wpIn_mono (hbody l pre x (x.2.flat ++ flatL ts) p D W e1 e5 ⟨q, cap, hh.same (e5.block _ hlt), hs.below e5⟩ hlt hx.1 hx.2 hW hD e6) ?_
      have hsm : x.2.len + st.length ≤ 1099511627776 := by
        have a1 := e3.len
        have a2 := flatL_len ts
        have a3 := Fo.len_le_size x.2
        rw [← Fo.length_flat] at a3
        have a4 : (flatL [t]).length = pre.length + (1 + (x.2.flat.length + (flatL ts).length)) := by rw [e1]; simp [flatL]; omega
        omega
      rintro e a3 W3 hp
      cases e with
      | normal =>
        obtain ⟨D', hT, hB, hA'⟩ := hp
        have hc : W3.cell? ⟨p.1, p.2 + 3, none⟩ = some (.slice q x.2.len cap) := ((e5.trans hB).cell (p := ⟨p.1, p.2 + 3, none⟩) hlt).trans hh.c3
        by_cases hl : 0 < x.2.len
        · obtain ⟨b, o, rfl, hfo⟩ := hs.at_ hl
          refine ⟨(x.2.flat ++ flatL ts).length, _, b, o, x.2.len, cap, D', by rw [e2]; simp [flatL], hc, fun _ => rfl, hs.lc, hsm, ⟨pre ++ [x], x.2.toList ++ ts, ?_, ?_, hfo.st.append e3, ?_, e5.trans hB, hA'⟩, hT, .inl (Nat.lt_of_lt_of_le hlt h1.size)⟩
          · rw [e1, flatL_append, flatL_toList]; simp [flatL]
          · rw [flatL_append, flatL_toList]
          · intro y hy
            rcases List.mem_append.1 hy with h | h
            · exact Fo.ok_list hx.2 y h
            · exact e4 y (by simp [h])
        · have h0 : x.2.len = 0 := by omega
          have hnil : x.2 = .nil := by cases hx2 : x.2 with
            | nil => rfl
            | cons h k r => rw [hx2] at h0; simp [Fo.len] at h0
          refine ⟨(flatL ts).length, q, 0, 0, x.2.len, cap, D', by rw [e2]; simp [flatL]; omega, hc, fun h => by omega, hs.lc, hsm, ⟨pre ++ [x], ts, ?_, rfl, ?_, fun y hy => e4 y (by simp [hy]), e5.trans hB, hA'⟩, hT, .inl (Nat.lt_of_lt_of_le hlt h1.size)⟩
          · rw [e1]; simp [flatL, hnil, Fo.flat]
          · rw [h0]; exact e3
      | ret => obtain ⟨D', hT, hB, hA'⟩ := hp; exact ⟨D', hT, pre ++ [x], x.2.flat ++ flatL ts, by rw [e1]; simp [flatL], e5.trans hB, hA'⟩
      | exit id => obtain ⟨D', hT, hB, hA'⟩ := hp; exact ⟨D', hT, pre ++ [x], x.2.flat ++ flatL ts, by rw [e1]; simp [flatL], e5.trans hB, hA'⟩
      | goto t' => obtain ⟨D', hT, hB, hA'⟩ := hp; exact ⟨D', hT, pre ++ [x], x.2.flat ++ flatL ts, by rw [e1]; simp [flatL], e5.trans hB, hA'⟩
      | panic ch => exact hp.elim
      | outgrown => exact hp.elim
  · rintro K k D W hK hDK ⟨pre, ts, e1, e2, e3, e4, e5, e6⟩ hW
    have := e3.nil_iff
    subst this
    refine hdone K D W hK hDK e5 ?_ hW
    rw [e1]; simpa [flatL] using e6
  · rintro K c D W hK hDK ⟨pre, rest, e1, e2, e3⟩ hW
    exact hstop K c pre rest D W hK hDK e1 e2 e3 hW

end Go.Proofs.Ytmjijmkdeblefaa
