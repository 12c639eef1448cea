/- spoil, of KindsApart's law: it writes into the tree's own memory alone. -/
import Derived.Test.YtcjhgefkbnbmnaaPKx
namespace Go.Proofs.Ytcjhgefkbnbmnaa
open Go.RowKit LM
set_option linter.unusedVariables false

/-- Only blocks of F are written. -/
structure SpOut (F : List Nat) (w w' : World) : Prop where
  os : w'.os = w.os
  tape : w'.tape = w.tape
  output : w'.output = w.output
  size : w.heap.size ≤ w'.heap.size
  keep : ∀ b, b < w.heap.size → b ∉ F → w'.heap[b]? = w.heap[b]?
theorem SpOut.trans {F G : List Nat} {w w1 w2 : World} (h : SpOut F w w1) (h2 : SpOut G w1 w2) (hs : ∀ c ∈ G, c < w.heap.size → c ∈ F) : SpOut F w w2 :=
  ⟨h2.os.trans h.os, h2.tape.trans h.tape, h2.output.trans h.output, Nat.le_trans h.size h2.size, fun b hb hn => (h2.keep b (Nat.lt_of_lt_of_le hb h.size) (fun hc => hn (hs b hc hb))).trans (h.keep b hb hn)⟩
theorem SpOut.below {F : List Nat} {w w' : World} {B : Nat} (h : SpOut F w w') (hB : ∀ c ∈ F, B ≤ c) (hw : B ≤ w.heap.size) : Below B w w' :=
  ⟨h.os, h.tape, h.output, h.size, fun k hk => h.keep k (by omega) (fun hc => by have := hB k hc; omega)⟩
theorem SpOut.of {F : List Nat} {w w' : World} (h : Below w.heap.size w w') : SpOut F w w' := ⟨h.os, h.tape, h.output, h.size, fun b hb _ => h.block b hb⟩

/-- A part is stored at its place. -/
def World.put4 (W : World) (b o : Nat) (v0 v1 v2 v3 : Value) : World := (((W.setCell ⟨b, o, none⟩ v0).setCell ⟨b, o + 1, none⟩ v1).setCell ⟨b, o + 2, none⟩ v2).setCell ⟨b, o + 3, none⟩ v3
theorem put4_grown (W : World) (b o : Nat) (v0 v1 v2 v3 : Value) : W.grownBy (World.put4 W b o v0 v1 v2 v3) (some b) :=
  ⟨rfl, rfl, rfl, by simp [World.put4], fun k _ hk => by
    have hne : k ≠ b := fun e => hk (by rw [e])
    exact (Below.heap_setCell _ _ _ k hne).trans ((Below.heap_setCell _ _ _ k hne).trans ((Below.heap_setCell _ _ _ k hne).trans (Below.heap_setCell _ _ _ k hne)))⟩
/-- What spoil keeps: the parts from number j on are as they were. -/
structure SpI (w : World) (h : Hd) (k : Fo) (q : Option Addr) (cap L b' : Nat) (F : List Nat) (j : Nat) (W : World) : Prop where
  le : j ≤ L
  box : RowIs W w.heap.size #[.int .u8 h.op, .string h.name, .int .i64 h.n, .slice q L cap]
  out : SpOut F w W
  big : ∀ c ∈ F, c < w.heap.size
  rest : j < L → ∃ r G, r.len + j = L ∧ r.size ≤ k.size ∧ PT PendN W r b' (j * 4) [] [] G ∧ (b' :: G).Nodup ∧ (∀ c ∈ b' :: G, c ∈ F) ∧ RowB W b'

end Go.Proofs.Ytcjhgefkbnbmnaa
