import Derived.Test.YtipfbppkahfnmaaDoorRnG
import Derived.Laws.CopyOwn
import Derived.Laws.MakeOwn
import Derived.Laws.AppendOwnNone
namespace Go.Proofs.YtipfbppkahfnmaaDoor
open Go.RowKit RM
set_option linter.unusedVariables false

theorem add_at (b off j : Nat) : (⟨b, off, none⟩ : Addr).add j = ⟨b, off + j, none⟩ := by
  by_cases j0 : j = 0
  · subst j0; simp [Addr.add]
  · simp [Addr.add, j0]

theorem sl_of_owns {w : World} {base : Nat} {e : TypeId} {k : IntKind} {v : Value} {n : Nat} {l : List Int} (h : w.ownsRow base e 1 v n (l.map (Value.int k))) :
    ∃ a cap, v = .slice a l.length cap ∧ Sl k w a cap l := by
  obtain ⟨h1, h2⟩ := h
  simp at h1
  subst h1
  rcases h2 with ⟨rfl, h0⟩ | ⟨g, cap, cur, rfl, hg, hh, hn, hm, hs, ht⟩
  · have : l = [] := List.length_eq_zero_iff.1 h0
    subst this
    exact ⟨none, 0, rfl, by simp, by omega, .inl rfl, fun _ => rfl⟩
  · refine ⟨_, cap, rfl, hn, by unfold maxLen at hm; omega, .inr ⟨g, 0, rfl, ?_, fun i hi => ?_⟩, fun h => by cases h⟩
    · by_cases hlt : g < w.heap.size
      · exact hlt
      · rw [Array.getElem?_eq_none (by omega)] at hh; cases hh
    · have e1 : cur[i]? = some (.int k (l.getD i 0)) := by
        have e2 : (cur.toList.take (l.length * 1))[i]? = (l.map (Value.int k))[i]? := by rw [ht]
        rw [List.getElem?_take, if_pos (by omega)] at e2
        rw [← Array.getElem?_toList, e2]
        simp [List.getD_eq_getElem?_getD, List.getElem?_eq_getElem hi]
      unfold World.cell?
      simp only [hh, Nat.zero_add]
      simpa using e1

theorem owns_below {w w' : World} {base : Nat} {e : TypeId} {size : Nat} {v : Value} {n : Nat} {xs : List Value} (h : w.ownsRow base e size v n xs) (hb : Below w.heap.size w w') : w'.ownsRow base e size v n xs := by
  obtain ⟨h1, h2⟩ := h
  refine ⟨h1, ?_⟩
  rcases h2 with h2 | ⟨g, cap, cur, hv, hg, hh, r⟩
  · exact Or.inl h2
  · refine Or.inr ⟨g, cap, cur, hv, hg, ?_, r⟩
    have : g < w.heap.size := by
      by_cases hlt : g < w.heap.size
      · exact hlt
      · rw [Array.getElem?_eq_none (by omega)] at hh; cases hh
    rw [hb.block g this]; exact hh

theorem newSl_owns {w w' : World} {v : Value} {n T : Nat} {k : IntKind} {l : List Int} (h : w'.ownsRow w.heap.size T 1 v n (l.map (Value.int k))) (hb : Below w.heap.size w w') : NewSl k l w (.returned v) w' := by
  obtain ⟨a, cap, rfl, hs⟩ := sl_of_owns h
  exact ⟨a, cap, rfl, hs, hb⟩

theorem cell_new (w : World) (x : Value) (t : TypeId) : ∀ j u, [x][j]? = some u → (w.alloc (.cells #[x] t)).cell? ((⟨w.heap.size, 0, none⟩ : Addr).add j) = some u := by
  intro j u hj
  cases j with
  | zero =>
    simp at hj
    subst hj
    show (w.alloc (.cells #[x] t)).cell? ⟨w.heap.size, 0, none⟩ = some x
    rw [World.cell?_alloc_at _ _ _ _ rfl]; rfl
  | succ j => simp at hj

theorem info5 : (Tryd.prog.info? 5).map (fun i => (i.zero, i.size, i.bytes)) = some (some (.int .u8 0), 1, 1) := by kernel_rfl

theorem heap_lt {w : World} {g : Nat} {o : Obj} (h : w.heap[g]? = some o) : g < w.heap.size := by
  by_cases hlt : g < w.heap.size
  · exact hlt
  · rw [Array.getElem?_eq_none (by omega)] at h; cases h

theorem cells_new (w : World) (xs : List Value) (t : TypeId) : ∀ j u, xs[j]? = some u → (w.alloc (.cells xs.toArray t)).cell? ((⟨w.heap.size, 0, none⟩ : Addr).add j) = some u := by
  intro j u hj
  have e : (⟨w.heap.size, 0, none⟩ : Addr).add j = ⟨w.heap.size, j, none⟩ := by
    by_cases j0 : j = 0
    · subst j0; rfl
    · simp [Addr.add, j0]
  rw [e, World.cell?_alloc_at _ _ _ _ rfl]
  simpa using hj

/-- append of a slice that reads as l, nil or not, to a slice of the call's own. -/
theorem wpList_append_sl {P : Program} {w : World} {ops : Array Oper} {rest : List Oper} {o : Oper} {a : Act} {Q : Exit → Act → World → Prop} (hgd : o.guard = none) (s x : Operand) (t : TypeId)
    (ho : o.op = .call { callee := .builtin .append, args := #[s, x], argTypes := #[t, t] })
    (base : Nat) (e : TypeId) (i : TypeInfo) (z : Value) (bytes : Nat) (ht : P.underlying t = some (.slice e)) (hi : P.info? e = some i) (hz : i.zero = some z)
    (hsize : i.size = 1) (hby : i.bytes = bytes) (hzs : z.cells.size = 1)
    (v : Value) (n : Nat) (xs : List Value) (hs : a.eval s = v) (hown : w.ownsRow base e 1 v n xs)
    (k : IntKind) (ad : Option Addr) (m c : Nat) (l : List Int) (hx : a.eval x = .slice ad m c) (hl : l.length = m) (hsl : Sl k w ad c l)
    (h63 : n + m ≤ maxLen) (hbytes : (n + m) * bytes ≤ 140737488355328) (hbase : base ≤ w.heap.size)
    (h : ∀ v' w', w'.ownsRow base e 1 v' (n + m) (xs ++ l.map (Value.int k)) → w.grownBy w' v.ownBlock → wpList P ops Q rest (a.put o.dst v') w') : wpList P ops Q (o :: rest) a w := by
  subst hl
  cases ad with
  | none =>
    obtain rfl := hsl.nil rfl
    have hl : l = [] := List.length_eq_zero_iff.1 (by have := hsl.le; omega)
    subst hl
    refine wpList_append_own_none hgd s x t ho base e i 1 ht hi v n xs hs hown hx (h v w (by simpa using hown) ?_)
    exact ⟨rfl, rfl, rfl, Nat.le_refl _, fun _ _ _ => rfl⟩
  | some ad =>
    refine wpList_append_own w hgd s x t ho base e i z 1 bytes ht hi hz hsize hby hzs (by omega) v n xs hs hown ad l.length c (l.map (Value.int k)) hx (by simp) ?_ ?_ h63 hbytes hbase (fun v' w' h1 h2 _ => h v' w' h1 h2)
    · intro j u hj
      rcases hsl.rd with e | ⟨b, off, e, hlt, hc⟩
      · subst e; simp at hj
      · cases e
        have hj' : j < l.length := by
          by_cases hj' : j < l.length
          · exact hj'
          · rw [List.getElem?_eq_none (by simp; omega)] at hj; cases hj
        have h5 : (⟨b, off, none⟩ : Addr).add j = ⟨b, off + j, none⟩ := by
          by_cases j0 : j = 0
          · subst j0; simp [Addr.add]
          · simp [Addr.add, j0]
        rw [h5, hc j hj']
        rw [List.getElem?_map, List.getElem?_eq_getElem hj'] at hj
        simp at hj
        rw [← hj]
        simp [List.getD_eq_getElem?_getD, List.getElem?_eq_getElem hj']
    · intro u hu
      simp at hu
      obtain ⟨x, _, rfl⟩ := hu
      rfl

theorem owns_empty (w : World) (T : TypeId) : (w.alloc (.cells #[] T)).ownsRow w.heap.size T 1 (.slice (some ⟨w.heap.size, 0, none⟩) 0 0) 0 [] := by
  refine ⟨rfl, .inr ⟨w.heap.size, 0, #[], rfl, Nat.le_refl _, ?_, Nat.le_refl _, by decide, rfl, rfl⟩⟩
  show (w.heap.push _)[w.heap.size]? = _
  simp

theorem byt_append {l m : List Int} (h : Byt l) (k : Byt m) : Byt (l ++ m) := by
  intro i hi
  simp at hi
  by_cases c : i < l.length
  · rw [List.getD_eq_getElem?_getD, List.getElem?_append_left c, ← List.getD_eq_getElem?_getD]
    exact h i c
  · rw [List.getD_eq_getElem?_getD, List.getElem?_append_right (by omega), ← List.getD_eq_getElem?_getD]
    exact k _ (by omega)
end Go.Proofs.YtipfbppkahfnmaaDoor
