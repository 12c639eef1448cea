/- Loops over nodes that only read. -/
import Derived.Test.YtcjhgefkbnbmnaaPTmC
import Derived.Test.YtcjhgefkbnbmnaaPC
namespace Go.Proofs.Ytcjhgefkbnbmnaa
open Go.RowKit Go.Shelf LM
set_option linter.unusedVariables false
attribute [local go_sem] Oper.semAt_some

/-- A node with its level and its Kids. -/
abbrev LT := Nat × TH × TF
/-- What one place holds. -/
def TPl (w : World) (p : LP) (t : LT) : Prop := p.1 = t.1 ∧ ∃ qa ca q cap, THAt w p.2.1 p.2.2 t.2.1 qa ca q t.2.2.len cap ∧ SlF w qa ca t.2.1.ak ∧ TSl w q cap t.2.2
theorem TPl.below {w w' : World} {p : LP} {t : LT} (h : TPl w p t) (hb : Below w.heap.size w w') : TPl w' p t := by
  obtain ⟨e, qa, ca, q, cap, h1, h2, h3⟩ := h
  exact ⟨e, qa, ca, q, cap, h1.same (hb.block _ h1.lt), h2.below hb, h3.below hb⟩
theorem TPl.lt {w : World} {p : LP} {t : LT} (h : TPl w p t) : p.2.1 < w.heap.size := by
  obtain ⟨e, qa, ca, q, cap, h1, h2, h3⟩ := h
  exact h1.lt
def TStAt (w : World) : List LP → List LT → Prop
  | [], [] => True
  | p :: st, t :: ts => TPl w p t ∧ TStAt w st ts
  | _, _ => False
theorem TStAt.below {w w' : World} (hb : Below w.heap.size w w') : ∀ {st : List LP} {ts : List LT}, TStAt w st ts → TStAt w' st ts
  | [], [], _ => trivial
  | p :: st, t :: ts, ⟨h1, h3⟩ => ⟨h1.below hb, TStAt.below hb h3⟩
  | [], _ :: _, h => h.elim
  | _ :: _, [], h => h.elim
theorem TStAt.append {w : World} : ∀ {st st' : List LP} {ts ts' : List LT}, TStAt w st ts → TStAt w st' ts' → TStAt w (st ++ st') (ts ++ ts')
  | [], _, [], _, _, h => h
  | _ :: _, _, _ :: _, _, ⟨h1, h2⟩, h => ⟨h1, TStAt.append h2 h⟩
  | [], _, _ :: _, _, h, _ => h.elim
  | _ :: _, _, [], _, h, _ => h.elim
theorem TStAt.nil_iff {w : World} {ts : List LT} (h : TStAt w [] ts) : ts = [] := by
  cases ts with
  | nil => rfl
  | cons t ts => exact h.elim
theorem TStAt.len {w : World} : ∀ {st : List LP} {ts : List LT}, TStAt w st ts → st.length = ts.length
  | [], [], _ => rfl
  | _ :: _, _ :: _, ⟨_, h⟩ => by simp [TStAt.len h]
  | [], _ :: _, h => h.elim
  | _ :: _, [], h => h.elim
/-- The trees side by side, each with its level. -/
def TF.lev (n : Nat) (f : TF) : List LT := f.toList.map fun t => (n, t)
theorem TF.lev_cons (n : Nat) (h : TH) (k r : TF) : (TF.cons h k r).lev n = (n, h, k) :: r.lev n := rfl
theorem TFAt.st {w : World} (n : Nat) : ∀ {f : TF} {b o : Nat}, TFAt w f b o → TStAt w (lkids n b o f.len) (f.lev (n + 1))
  | .nil, _, _, _ => trivial
  | .cons h k r, b, o, ⟨qa, ca, q, cap, hh, ha, hk, hr⟩ => by
    rw [TF.len, lkids_succ, TF.lev_cons]
    exact ⟨⟨rfl, qa, ca, q, cap, hh, ha, hh.lc, hh.cm, hk⟩, TFAt.st n hr⟩

/-- All nodes with their levels. -/
def TF.lflat (n : Nat) : TF → List LT
  | .nil => []
  | .cons h k r => (n, h, k) :: (k.lflat (n + 1) ++ r.lflat n)
/-- What is still to come of ts. -/
def lflatL : List LT → List LT
  | [] => []
  | t :: ts => t :: (t.2.2.lflat (t.1 + 1) ++ lflatL ts)
theorem lflatL_append (a b : List LT) : lflatL (a ++ b) = lflatL a ++ lflatL b := by
  induction a with
  | nil => rfl
  | cons t a ih => simp [lflatL, ih]
theorem lflatL_lev (n : Nat) (f : TF) : lflatL (f.lev n) = f.lflat n := by
  induction f with
  | nil => rfl
  | cons h k r _ hr => rw [TF.lev_cons, lflatL, hr]; rfl
theorem length_lflat (f : TF) : ∀ n, (f.lflat n).length = f.size := by
  induction f with
  | nil => intro n; rfl
  | cons h k r hk hr => intro n; simp [TF.lflat, TF.size, hk, hr]; omega
theorem map_lflat (f : TF) : ∀ n, (f.lflat n).map Prod.snd = f.flat := by
  induction f with
  | nil => intro n; rfl
  | cons h k r hk hr => intro n; simp [TF.lflat, TF.flat, hk, hr]
theorem lflatL_len (ts : List LT) : ts.length ≤ (lflatL ts).length := by
  induction ts with
  | nil => exact Nat.le_refl _
  | cons t ts ih => simp [lflatL]; omega
def tokL (ts : List LT) : Prop := ∀ t ∈ ts, t.2.1.ok ∧ t.2.2.ok
theorem TF.ok_lev (n : Nat) {f : TF} (h : f.ok) : tokL (f.lev n) := by
  induction f with
  | nil => intro t ht; cases ht
  | cons h' k r _ hr =>
    intro t ht
    rcases List.mem_cons.1 ht with rfl | h2
    · exact ⟨h.1, h.2.1⟩
    · exact hr h.2.2 t h2
theorem lev_fst {n : Nat} {f : TF} {t : LT} (h : t ∈ f.lev n) : t.1 = n := by
  obtain ⟨x, _, rfl⟩ := List.mem_map.1 h; rfl

/-- How a body that leaves the tree alone may be left. -/
def lookPost (n₀ : Nat) (w1 : World) (A : List LT → (Nat → Prop) → World → Prop) (Ax : Code → List LT → (Nat → Prop) → World → Prop) (pre : List LT) (D : Nat → Prop) (W : World) : Exit → Act → World → Prop
  | .normal, _, W' => ∃ D', Tch n₀ D D' W W' ∧ Below w1.heap.size W W' ∧ A pre D' W'
  | .ret, _, W' => ∃ D', Tch n₀ D D' W W' ∧ Below w1.heap.size W W' ∧ Ax .ret pre D' W'
  | .exit id, _, W' => ∃ D', Tch n₀ D D' W W' ∧ Below w1.heap.size W W' ∧ Ax (.exit id) pre D' W'
  | .goto t, _, W' => ∃ D', Tch n₀ D D' W W' ∧ Below w1.heap.size W W' ∧ Ax (.goto t) pre D' W'
  | .panic _, _, _ => False
  | .outgrown, _, _ => False

variable {F : Fence} {n : Nat}

theorem range_look {g : Operand} {ps : Array Tmp} {assign body : Code} {Q : Exit → Act → World → Prop} {a : Act} {w : World}
    (hro : F.round = none) (hn : 2 ≤ n) {Bn : Nat} (hg : a.eval g = .func (.func 98) #[] #[.pointer (some ⟨Bn, 0, none⟩)]) (h66 : F.fn 98) (root : Pl) (hBn : w.cell? ⟨Bn, 0, none⟩ = some (.pointer (some ⟨root.1, root.2, none⟩))) (hps : ps.size = 2)
    (w1 : World) (h1 : Below w1.heap.size w1 w) (t : LT) (ht : TStAt w1 [(1, root)] [t]) (hok : tokL [t]) (hsz : (lflatL [t]).length ≤ 1099511627776)
    (A : List LT → (Nat → Prop) → World → Prop) (Ax : Code → List LT → (Nat → Prop) → World → Prop)
    (hA : ∀ pre D X Y row, A pre D X → X.grownBy Y row → (∀ r, row = some r → w.heap.size ≤ r ∧ ¬ D r) → A pre D Y)
    (hAx : ∀ c pre D X Y row, Ax c pre D X → X.grownBy Y row → (∀ r, row = some r → w.heap.size ≤ r ∧ ¬ D r) → Ax c pre D Y)
    (h0 : A [] (fun _ => False) w) (a₁ : LP → Act)
    (hassign : ∀ (l : Nat) (p : LP) (W : World) (K : Act → World → Prop), K (a₁ p) W →
      assign.wpIn (F.inRound l) (n - 1 - 1) Try.prog (Exit.then K (fun _ _ _ => False)) { tmps := (ps.zip #[Value.int .i64 (p.1 : Nat), Value.pointer (some ⟨p.2.1, p.2.2, none⟩)]).foldl (fun t (p, v) => t.setIfInBounds p v) a.tmps, defers := [] } W)
    (hbody : ∀ (l : Nat) (pre : List LT) (x : LT) (rest : List LT) (p : LP) (D : Nat → Prop) (W : World), lflatL [t] = pre ++ x :: rest → Below w1.heap.size w1 W → TPl W p x → p.2.1 < w1.heap.size → p.1 ≤ pre.length + 1 →
      x.2.1.ok → x.2.2.ok → w.heap.size ≤ W.heap.size → (∀ b, D b → b < W.heap.size) → A pre D W → body.wpIn (F.inRound l) (n - 1 - 1) Try.prog (lookPost w.heap.size w1 A Ax (pre ++ [x]) D W) (a₁ p) W)
    (hdone : ∀ (K : Nat) (D : Nat → Prop) (W : World), w.heap.size ≤ K → ¬ D K → Below w1.heap.size w1 W → A (lflatL [t]) D W → W.heap[K]? = some (.deferred (some [])) → Q .normal { a with defers := { target := .collected K, args := #[] } :: a.defers } W)
    (hstop : ∀ (K : Nat) (c : Code) (pre rest : List LT) (D : Nat → Prop) (W : World), w.heap.size ≤ K → ¬ D K → lflatL [t] = pre ++ rest → Below w1.heap.size w1 W → Ax c pre D W → W.heap[K]? = some (.deferred (some [])) → c.wpIn F n Try.prog Q { a with defers := { target := .collected K, args := #[] } :: a.defers } W) :
    (Code.rangeFunc g ps assign body).wpIn F n Try.prog Q a w := by
  have hgb : ∀ {X Y : World} {row : Option Nat} {D : Nat → Prop}, Below w1.heap.size w1 X → X.grownBy Y row → (∀ r, row = some r → w.heap.size ≤ r ∧ ¬ D r) → Below w1.heap.size w1 Y := fun hB hg hr =>
    hB.grown hg hB.size (fun k e => Nat.le_trans h1.size (hr k e).1)
  have ht1 : t.1 = 1 := ht.1.1.symm
  refine range_nodes hro hn hg h66 root hBn hps
    (fun k st D W => ∃ pre ts, lflatL [t] = pre ++ lflatL ts ∧ k = (lflatL ts).length ∧ TStAt w1 st ts ∧ tokL ts ∧ (∀ t ∈ ts, t.1 ≤ pre.length + 1) ∧ Below w1.heap.size w1 W ∧ A pre D W)
    (fun c D W => ∃ pre rest, lflatL [t] = pre ++ rest ∧ Below w1.heap.size w1 W ∧ Ax c pre D W)
    ?_ ?_ (lflatL [t]).length ⟨[], [t], rfl, rfl, ht, hok, by intro t' ht'; simp at ht'; subst ht'; rw [ht1]; exact Nat.le_refl _, h1, h0⟩ a₁ hassign ?_ ?_ ?_
  · rintro k st D X Y row ⟨pre, ts, e1, e2, e3, e4, e45, e5, e6⟩ hg hr
    exact ⟨pre, ts, e1, e2, e3, e4, e45, hgb e5 hg hr, hA _ _ _ _ _ e6 hg hr⟩
  · rintro c D X Y row ⟨pre, rest, e1, e2, e3⟩ hg hr
    exact ⟨pre, rest, e1, hgb e2 hg hr, hAx _ _ _ _ _ _ e3 hg hr⟩
  · rintro l k p st D W hW hD ⟨pre, ts, e1, e2, e3, e4, e45, e5, e6⟩
    cases ts with
    | nil => exact e3.elim
    | cons x ts =>
      obtain ⟨hpl, e3⟩ := e3
      have hx := e4 x (by simp)
      have hlt := hpl.lt
      have hlev := e45 x (by simp)
      have hp1 := hpl.1
      refine wpIn_mono (hbody l pre x (x.2.2.lflat (x.1 + 1) ++ lflatL ts) p D W e1 e5 (hpl.below e5) hlt (by omega) hx.1 hx.2 hW hD e6) ?_
      obtain ⟨_, qa, ca, q, cap, hh, ha, hs⟩ := hpl
      have a4 : (lflatL [t]).length = pre.length + (1 + (x.2.2.size + (lflatL ts).length)) := by rw [e1]; simp [lflatL, length_lflat]; omega
      have hsm : x.2.2.len + st.length ≤ 1099511627776 := by
        have a1 := e3.len
        have a2 := lflatL_len ts
        have a3 := TF.len_le_size x.2.2
        omega
      rintro e a3 W3 hp
      cases e with
      | normal =>
        obtain ⟨D', hT, hB, hA'⟩ := hp
        have hc : W3.cell? ⟨p.2.1, p.2.2 + 9, none⟩ = some (.slice q x.2.2.len cap) := ((e5.trans hB).cell (p := ⟨p.2.1, p.2.2 + 9, none⟩) hlt).trans hh.c9
        by_cases hl : 0 < x.2.2.len
        · obtain ⟨b, o, rfl, hfo⟩ := hs.at_ hl
          refine ⟨(x.2.2.lflat (x.1 + 1) ++ lflatL ts).length, _, b, o, x.2.2.len, cap, D', by rw [e2]; simp [lflatL], hc, fun _ => rfl, hs.lc, hsm, by omega, ⟨pre ++ [x], x.2.2.lev (x.1 + 1) ++ ts, ?_, ?_, (by rw [hp1]; exact hfo.st _ |>.append e3), ?_, ?_, e5.trans hB, hA'⟩, hT, .inl (Nat.lt_of_lt_of_le hlt h1.size)⟩
          · rw [e1, lflatL_append, lflatL_lev]; simp [lflatL]
          · rw [lflatL_append, lflatL_lev]
          · intro y hy
            rcases List.mem_append.1 hy with h | h
            · exact TF.ok_lev _ hx.2 y h
            · exact e4 y (by simp [h])
          · intro y hy
            rw [List.length_append, List.length_singleton]
            rcases List.mem_append.1 hy with h | h
            · rw [lev_fst h]; omega
            · have := e45 y (by simp [h]); omega
        · have h0 : x.2.2.len = 0 := by omega
          have hnil : x.2.2 = .nil := by cases hx2 : x.2.2 with
            | nil => rfl
            | cons h k r => rw [hx2] at h0; simp [TF.len] at h0
          refine ⟨(lflatL ts).length, q, 0, 0, x.2.2.len, cap, D', by rw [e2]; simp [lflatL]; omega, hc, fun h => by omega, hs.lc, hsm, by omega, ⟨pre ++ [x], ts, ?_, rfl, ?_, fun y hy => e4 y (by simp [hy]), fun y hy => by have := e45 y (by simp [hy]); rw [List.length_append]; omega, e5.trans hB, hA'⟩, hT, .inl (Nat.lt_of_lt_of_le hlt h1.size)⟩
          · rw [e1]; simp [lflatL, hnil, TF.lflat]
          · rw [h0]; exact e3
      | ret => obtain ⟨D', hT, hB, hA'⟩ := hp; exact ⟨D', hT, pre ++ [x], x.2.2.lflat (x.1 + 1) ++ lflatL ts, by rw [e1]; simp [lflatL], e5.trans hB, hA'⟩
      | exit id => obtain ⟨D', hT, hB, hA'⟩ := hp; exact ⟨D', hT, pre ++ [x], x.2.2.lflat (x.1 + 1) ++ lflatL ts, by rw [e1]; simp [lflatL], e5.trans hB, hA'⟩
      | goto t' => obtain ⟨D', hT, hB, hA'⟩ := hp; exact ⟨D', hT, pre ++ [x], x.2.2.lflat (x.1 + 1) ++ lflatL ts, by rw [e1]; simp [lflatL], e5.trans hB, hA'⟩
      | panic ch => exact hp.elim
      | outgrown => exact hp.elim
  · rintro K k D W hK hDK ⟨pre, ts, e1, e2, e3, e4, e45, e5, e6⟩ hW
    have := e3.nil_iff
    subst this
    refine hdone K D W hK hDK e5 ?_ hW
    rw [e1]; simpa [lflatL] using e6
  · rintro K c D W hK hDK ⟨pre, rest, e1, e2, e3⟩ hW
    exact hstop K c pre rest D W hK hDK e1 e2 e3 hW

theorem nodes_any (p : Option Addr) (w : World) :
    Calls Try.prog 74 #[.pointer p] w fun e w' => e = .returned (.func (.func 98) #[] #[.pointer (some ⟨w.heap.size, 0, none⟩)]) ∧ w' = w.alloc (.cells #[.pointer p] 82) := by
  go_enter Try.func74, Try.ntmps74
  go_wp2
  go_ret
  exact ⟨rfl, rfl⟩

/-- A term's value. -/
abbrev tmV (h : TH) (qa : Option Addr) (ca : Nat) (q : Option Addr) (len cap : Nat) : Array Value :=
  #[.int .u8 h.op, .string h.name, .string h.arg, .int .i64 h.n, .bool h.has, .int .u8 h.ah.op, .string h.ah.name, .int .i64 h.ah.n, .slice qa h.ak.len ca, .slice q len cap]
/-- A term that came by value, in the box of a parameter. -/
theorem tboxed_st (w : World) (h : TH) (f : TF) (qa : Option Addr) (ca : Nat) (q : Option Addr) (cap : Nat) (ha : SlF w qa ca h.ak) (hf : TSl w q cap f) :
    TStAt (w.alloc (.cells (tmV h qa ca q f.len cap) 43)) [(1, w.heap.size, 0)] [(1, h, f)] := by
  have hc : (w.alloc (.cells (tmV h qa ca q f.len cap) 43)).heap[w.heap.size]? = some (.cells (tmV h qa ca q f.len cap) 43 (0, 0)) := World.alloc_heap_new w _
  refine ⟨⟨rfl, qa, ca, q, cap, ⟨?_, ?_, ?_, ?_, ?_, ?_, ?_, ?_, ?_, ?_, hf.lc, hf.cm⟩, ha.below ((Below.refl _ _).alloc (Nat.le_refl _) _), hf.below ((Below.refl _ _).alloc (Nat.le_refl _) _)⟩, trivial⟩ <;> (simp only [World.cell?, hc]; rfl)
theorem lflatL_one (n : Nat) (h : TH) (f : TF) : lflatL [(n, h, f)] = (TF.cons h f .nil).lflat n := by simp [lflatL, TF.lflat]
theorem length_lone (n : Nat) (h : TH) (f : TF) : (lflatL [(n, h, f)]).length = 1 + f.size := by rw [lflatL_one, length_lflat]; simp [TF.size]
end Go.Proofs.Ytcjhgefkbnbmnaa
