/- A loop over a tree's parts that is told where each lies; a tree some of whose parts are still to be put. -/
import Derived.Test.YtmjijmkdeblefaaKdK
namespace Go.Proofs.Ytmjijmkdeblefaa
open Go.RowKit Go.Shelf LM
set_option linter.unusedVariables false

/-- Where the Kids of the part at (b, o) lie. -/
def kidAt (w : World) (b o : Nat) : Pl := match w.cell? ⟨b, o + 3, none⟩ with | some (.slice (some a) _ _) => (a.block, a.off) | _ => (0, 0)
/-- All parts with their places. -/
def allF (w : World) : Fo → Nat → Nat → List (Pl × (Hd × Fo))
  | .nil, _, _ => []
  | .cons h k r, b, o => ((b, o), (h, k)) :: (allF w k (kidAt w b o).1 (kidAt w b o).2 ++ allF w r b (o + 4))
/-- What is still to come of them. -/
def allL (w : World) : List Pl → List (Hd × Fo) → List (Pl × (Hd × Fo))
  | p :: st, t :: ts => (p, t) :: (allF w t.2 (kidAt w p.1 p.2).1 (kidAt w p.1 p.2).2 ++ allL w st ts)
  | _, _ => []
theorem allL_append (w : World) : ∀ {st : List Pl} {ts : List (Hd × Fo)} {st' : List Pl} {ts' : List (Hd × Fo)}, st.length = ts.length → allL w (st ++ st') (ts ++ ts') = allL w st ts ++ allL w st' ts'
  | [], [], _, _, _ => rfl
  | p :: st, t :: ts, _, _, h => by simp only [List.cons_append, allL]; rw [allL_append w (by simpa using h)]; simp
theorem allL_kids (w : World) : ∀ (f : Fo) (b o : Nat), allL w (kidsP b o f.len) f.toList = allF w f b o
  | .nil, _, _ => rfl
  | .cons h k r, b, o => by rw [Fo.len, kidsP_succ]; simp only [Fo.toList, allL, allF]; rw [allL_kids w r b (o + 4)]
theorem allF_snd (w : World) : ∀ (f : Fo) (b o : Nat), (allF w f b o).map (·.2) = f.flat
  | .nil, _, _ => rfl
  | .cons h k r, b, o => by simp only [allF, Fo.flat, List.map_cons, List.map_append]; rw [allF_snd w k, allF_snd w r]
theorem allL_snd (w : World) : ∀ {st : List Pl} {ts : List (Hd × Fo)}, st.length = ts.length → (allL w st ts).map (·.2) = flatL ts
  | [], [], _ => rfl
  | p :: st, t :: ts, h => by simp only [allL, flatL, List.map_cons, List.map_append]; rw [allF_snd, allL_snd w (by simpa using h)]
theorem kidAt_of {w : World} {b o : Nat} {h : Hd} {b' o' len cap : Nat} (hh : HdAt w b o h (some ⟨b', o', none⟩) len cap) : kidAt w b o = (b', o') := by unfold kidAt; rw [hh.c3]

def qPost (n₀ : Nat) (w1 : World) (A : List (Pl × (Hd × Fo)) → (Nat → Prop) → World → Prop) (pre : List (Pl × (Hd × Fo))) (D : Nat → Prop) (W : World) : Exit → Act → World → Prop
  | .normal, _, W' => ∃ D', Tch n₀ D D' W W' ∧ Below w1.heap.size W W' ∧ A pre D' W'
  | _, _, _ => False

variable {F : Fence} {n : Nat}

theorem range_place {g : Operand} {ps : Array Tmp} {assign body : Code} {Q : Exit → Act → World → Prop} {a : Act} {w : World}
    (hro : F.round = none) (hn : 2 ≤ n) {Bn : Nat} (hg : a.eval g = .func (.func 88) #[] #[.pointer (some ⟨Bn, 0, none⟩)]) (h66 : F.fn 88) (root : Pl) (hBn : w.cell? ⟨Bn, 0, none⟩ = some (.pointer (some ⟨root.1, root.2, none⟩))) (hps : ps.size = 1)
    (w1 : World) (h1 : Below w1.heap.size w1 w) (t : Hd × Fo) (ht : StAt w1 [root] [t]) (hok : okL [t]) (hsz : (flatL [t]).length ≤ 1099511627776)
    (A : List (Pl × (Hd × Fo)) → (Nat → Prop) → World → Prop)
    (hA : ∀ pre D X Y row, A pre D X → X.grownBy Y row → (∀ r, row = some r → w.heap.size ≤ r ∧ ¬ D r) → A pre D Y)
    (h0 : A [] (fun _ => False) w) (a₁ : Pl → Act)
    (hassign : ∀ (l : Nat) (p : Pl) (W : World) (K : Act → World → Prop), K (a₁ p) W →
      assign.wpIn (F.inRound l) (n - 1 - 1) Try.prog (Exit.then K (fun _ _ _ => False)) { tmps := (ps.zip #[Value.pointer (some ⟨p.1, p.2, none⟩)]).foldl (fun t (p, v) => t.setIfInBounds p v) a.tmps, defers := [] } W)
    (hbody : ∀ (l : Nat) (pre : List (Pl × (Hd × Fo))) (x : Hd × Fo) (rest : List (Pl × (Hd × Fo))) (p : Pl) (D : Nat → Prop) (W : World), allL w1 [root] [t] = pre ++ (p, x) :: rest → Below w1.heap.size w1 W → (∃ q cap, HdAt W p.1 p.2 x.1 q x.2.len cap ∧ SlF W q cap x.2) → p.1 < w1.heap.size →
      x.1.ok → x.2.ok → w.heap.size ≤ W.heap.size → (∀ b, D b → b < W.heap.size) → A pre D W → body.wpIn (F.inRound l) (n - 1 - 1) Try.prog (qPost w.heap.size w1 A (pre ++ [(p, x)]) D W) (a₁ p) W)
    (hdone : ∀ (K : Nat) (D : Nat → Prop) (W : World), w.heap.size ≤ K → ¬ D K → Below w1.heap.size w1 W → A (allL w1 [root] [t]) D W → W.heap[K]? = some (.deferred (some [])) → Q .normal { a with defers := { target := .collected K, args := #[] } :: a.defers } W) :
    (Code.rangeFunc g ps assign body).wpIn F n Try.prog Q a w := by
  have hgb : ∀ {X Y : World} {row : Option Nat} {D : Nat → Prop}, Below w1.heap.size w1 X → X.grownBy Y row → (∀ r, row = some r → w.heap.size ≤ r ∧ ¬ D r) → Below w1.heap.size w1 Y := fun hB hg hr =>
    hB.grown hg hB.size (fun k e => Nat.le_trans h1.size (hr k e).1)
  have hall : (allL w1 [root] [t]).length = (flatL [t]).length := by rw [← allL_snd w1 (st := [root]) (ts := [t]) rfl, List.length_map]
  refine range_parts hro hn hg h66 root hBn hps
    (fun k st D W => ∃ pre ts, allL w1 [root] [t] = pre ++ allL w1 st ts ∧ k = (flatL ts).length ∧ StAt w1 st ts ∧ okL ts ∧ Below w1.heap.size w1 W ∧ A pre D W)
    (fun c D W => False)
    ?_ ?_ (flatL [t]).length ⟨[], [t], rfl, rfl, ht, hok, h1, h0⟩ a₁ hassign ?_ ?_ ?_
  · rintro k st D X Y row ⟨pre, ts, e1, e2, e3, e4, e5, e6⟩ hg hr
    exact ⟨pre, ts, e1, e2, e3, e4, hgb e5 hg hr, hA _ _ _ _ _ e6 hg hr⟩
  · rintro c D X Y row h hg hr
    exact h
  · rintro l k p st D W hW hD ⟨pre, ts, e1, e2, e3, e4, e5, e6⟩
    cases ts with
    | nil => exact e3.elim
    | cons x ts =>
      obtain ⟨⟨q, cap, hh, hs⟩, e3⟩ := e3
      have hx := e4 x (by simp)
      have hlt := hh.lt
      refine wpIn_mono (hbody l pre x _ p D W e1 e5 ⟨q, cap, hh.same (e5.block _ hlt), hs.below e5⟩ hlt hx.1 hx.2 hW hD e6) ?_
      have hsm : x.2.len + st.length ≤ 1099511627776 := by
        have a1 := e3.len
        have a2 := flatL_len ts
        have a3 := Fo.len_le_size x.2
        rw [← Fo.length_flat] at a3
        have a5 : (allL w1 (p :: st) (x :: ts)).length = (flatL (x :: ts)).length := by rw [← allL_snd w1 (st := p :: st) (ts := x :: ts) (by simp [a1]), List.length_map]
        have a4 : (flatL [t]).length = pre.length + (1 + (x.2.flat.length + (flatL ts).length)) := by rw [← hall, e1, List.length_append, a5]; simp [flatL]; omega
        omega
      rintro e a3 W3 hp
      cases e with
      | normal =>
        obtain ⟨D', hT, hB, hA'⟩ := hp
        have hc : W3.cell? ⟨p.1, p.2 + 3, none⟩ = some (.slice q x.2.len cap) := ((e5.trans hB).cell (p := ⟨p.1, p.2 + 3, none⟩) hlt).trans hh.c3
        by_cases hl : 0 < x.2.len
        · obtain ⟨b, o, rfl, hfo⟩ := hs.at_ hl
          refine ⟨(x.2.flat ++ flatL ts).length, _, b, o, x.2.len, cap, D', by rw [e2]; simp [flatL], hc, fun _ => rfl, hs.lc, hsm, ⟨pre ++ [(p, x)], x.2.toList ++ ts, ?_, ?_, hfo.st.append e3, ?_, e5.trans hB, hA'⟩, hT, .inl (Nat.lt_of_lt_of_le hlt h1.size)⟩
          · rw [e1, allL_append w1 (by rw [length_kidsP, Fo.length_toList]), allL_kids]; simp only [allL]; rw [kidAt_of hh]; simp
          · rw [flatL_append, flatL_toList]
          · intro y hy
            rcases List.mem_append.1 hy with h | h
            · exact Fo.ok_list hx.2 y h
            · exact e4 y (by simp [h])
        · have h0 : x.2.len = 0 := by omega
          have hnil : x.2 = .nil := by cases hx2 : x.2 with
            | nil => rfl
            | cons h k r => rw [hx2] at h0; simp [Fo.len] at h0
          refine ⟨(flatL ts).length, q, 0, 0, x.2.len, cap, D', by rw [e2]; simp [flatL]; omega, hc, fun h => by omega, hs.lc, hsm, ⟨pre ++ [(p, x)], ts, ?_, rfl, ?_, fun y hy => e4 y (by simp [hy]), e5.trans hB, hA'⟩, hT, .inl (Nat.lt_of_lt_of_le hlt h1.size)⟩
          · rw [e1]; simp only [allL, hnil, allF]; simp [kidsP, Fo.len]
          · rw [h0]; exact e3
      | ret => exact hp.elim
      | exit id => exact hp.elim
      | goto t' => exact hp.elim
      | panic ch => exact hp.elim
      | outgrown => exact hp.elim
  · rintro K k D W hK hDK ⟨pre, ts, e1, e2, e3, e4, e5, e6⟩ hW
    have := e3.nil_iff
    subst this
    refine hdone K D W hK hDK e5 ?_ hW
    rw [e1]; simpa [allL] using e6
  · rintro K c D W hK hDK hx hW
    exact hx.elim

/-! ### Parts that are still to be put -/
/-- A part that is to be put: whatever is there now. -/
def PendV : PendT := fun w b o _ _ _ => ∃ h q len cap, HdAt w b o h q len cap
theorem PendV.loc : LocP PendV := fun w w' b o h k F ⟨h0, q, len, cap, hh⟩ hc _ => ⟨h0, q, len, cap, hh.cells hc⟩
/-- The places of the parts of this Op and number. -/
def sel (op n : Int) (l : List (Pl × (Hd × Fo))) : List Pl := (l.filter fun x => decide (x.2.1.op = op) && decide (x.2.1.n = n)).map (·.1)
theorem sel_append (op n : Int) (l m : List (Pl × (Hd × Fo))) : sel op n (l ++ m) = sel op n l ++ sel op n m := by simp [sel]
theorem sel_yes {op n : Int} {p : Pl} {x : Hd × Fo} (h1 : x.1.op = op) (h2 : x.1.n = n) (l : List (Pl × (Hd × Fo))) : sel op n ((p, x) :: l) = p :: sel op n l := by simp [sel, h1, h2]
theorem sel_no {op n : Int} {p : Pl} {x : Hd × Fo} (h : ¬ (x.1.op = op ∧ x.1.n = n)) (l : List (Pl × (Hd × Fo))) : sel op n ((p, x) :: l) = sel op n l := by
  have : (decide (x.1.op = op) && decide (x.1.n = n)) = false := by simpa using h
  simp [sel, this]
theorem length_sel (op n : Int) (l : List (Pl × (Hd × Fo))) : (sel op n l).length ≤ l.length := by
  simp only [sel, List.length_map]; exact List.length_filter_le _ _
end Go.Proofs.Ytmjijmkdeblefaa
