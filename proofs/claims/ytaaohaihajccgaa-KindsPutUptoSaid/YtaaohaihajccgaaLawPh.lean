/- KindsPut: the law's walk. -/
import Derived.Test.YtaaohaihajccgaaKpG
namespace Go.Proofs.Ytaaohaihajccgaa
open Go.RowKit LM
set_option linter.unusedVariables false

theorem Alike_yes (h : Hd) (k : Fo) (q q' : Option Addr) (cap cap' : Nat) (w : World) (hh : h.ok) (hk : k.ok) (s : SlF w q cap k) (s' : SlF w q' cap' k) :
    Calls Try.prog 20 #[.agg #[.int .u8 h.op, .string h.name, .int .i64 h.n, .slice q k.len cap], .agg #[.int .u8 h.op, .string h.name, .int .i64 h.n, .slice q' k.len cap']] w fun e w' => e = .returned (.bool true) ∧ Below w.heap.size w w' := by
  have := Alike_any (k.size + 1) h h k k q q' cap cap' w (by omega) hh hh hk hk s s'
  rw [alk_self] at this
  exact this

/-- Two trees in two boxes. -/
structure Box2 (w : World) (b : Nat) (h : Hd) (k : Fo) (q : Option Addr) (cap : Nat) (H : Hd) (K : Fo) (Q : Option Addr) (C : Nat) (W : World) : Prop where
  b0 : W.heap[b]? = some (.cells #[.int .u8 h.op, .string h.name, .int .i64 h.n, .slice q k.len cap] 25 (0, 0))
  b1 : W.heap[b + 1]? = some (.cells #[.int .u8 H.op, .string H.name, .int .i64 H.n, .slice Q K.len C] 25 (0, 0))
  below : Below w.heap.size w W
theorem Box2.go {w : World} {b : Nat} {h : Hd} {k : Fo} {q : Option Addr} {cap : Nat} {H : Hd} {K : Fo} {Q : Option Addr} {C : Nat} {W W' : World} (hp : Box2 w b h k q cap H K Q C W) (hb : Below W.heap.size W W') : Box2 w b h k q cap H K Q C W' := by
  have l0 := (Array.getElem?_eq_some_iff.1 hp.b0).1
  have l1 := (Array.getElem?_eq_some_iff.1 hp.b1).1
  exact ⟨(hb.block _ l0).trans hp.b0, (hb.block _ l1).trans hp.b1, hp.below.trans (hb.mono hp.below.size)⟩
theorem Box2.start (w : World) (h : Hd) (k : Fo) (q : Option Addr) (cap : Nat) (H : Hd) (K : Fo) (Q : Option Addr) (C : Nat) :
    Box2 w w.heap.size h k q cap H K Q C ((w.alloc (.cells #[.int .u8 h.op, .string h.name, .int .i64 h.n, .slice q k.len cap] 25)).alloc (.cells #[.int .u8 H.op, .string H.name, .int .i64 H.n, .slice Q K.len C] 25)) := by
  have e1 := World.alloc_heap_new w (.cells #[.int .u8 h.op, .string h.name, .int .i64 h.n, .slice q k.len cap] 25)
  have e2 := World.alloc_heap_new (w.alloc (.cells #[.int .u8 h.op, .string h.name, .int .i64 h.n, .slice q k.len cap] 25)) (.cells #[.int .u8 H.op, .string H.name, .int .i64 H.n, .slice Q K.len C] 25)
  simp only [World.size_alloc] at e2
  exact ⟨((below_box _ _).block _ (by simp)).trans e1, e2, (below_box _ _).alloc (by simp) _⟩

theorem below_go3 {w W W' : World} (h : Below w.heap.size w W) (k : Below W.heap.size W W') : Below w.heap.size w W' := h.trans (k.mono h.size)
/-- A tree in a box. -/
structure XBox (b : Nat) (X : Hd × Fo) (qx : Option Addr) (cx : Nat) (W : World) : Prop where
  b : W.heap[b]? = some (.cells #[.int .u8 X.1.op, .string X.1.name, .int .i64 X.1.n, .slice qx X.2.len cx] 25 (0, 0))
  s : SlF W qx cx X.2
theorem XBox.go {b : Nat} {X : Hd × Fo} {qx : Option Addr} {cx : Nat} {W W' : World} (h : XBox b X qx cx W) (hb : Below W.heap.size W W') : XBox b X qx cx W' :=
  ⟨(hb.block _ (Array.getElem?_eq_some_iff.1 h.b).1).trans h.b, h.s.below hb⟩
end Go.Proofs.Ytaaohaihajccgaa
