/- The document's Put. -/
import Derived.Test.YtmjijmkdeblefaaKpA
import Derived.Test.YtmjijmkdeblefaaKdX
import Derived.Maps.AppendAt
import Derived.BigRegion
import Derived.Deep.RegionLaw
namespace Go.Proofs.Ytmjijmkdeblefaa
open Go.RowKit LM
set_option linter.unusedVariables false

namespace Fo
def app : Fo → Fo → Fo
  | nil, g => g
  | cons h k r, g => cons h k (r.app g)
def take : Fo → Nat → Fo
  | nil, _ => nil
  | cons _ _ _, 0 => nil
  | cons h k r, j + 1 => cons h k (r.take j)
/-- In the place of each part of this Op and number, that tree. -/
def putF (op n : Int) (H : Hd) (K : Fo) : Fo → Fo
  | nil => nil
  | cons h k r => if h.op = op ∧ h.n = n then cons H K (putF op n H K r) else cons h (putF op n H K k) (putF op n H K r)
end Fo
theorem Fo.len_app : ∀ (f g : Fo), (f.app g).len = f.len + g.len
  | .nil, g => by simp [Fo.app, Fo.len]
  | .cons h k r, g => by simp only [Fo.app, Fo.len]; rw [Fo.len_app r g]; omega
theorem Fo.len_put (op n : Int) (H : Hd) (K : Fo) : ∀ f : Fo, (Fo.putF op n H K f).len = f.len
  | .nil => rfl
  | .cons h k r => by
    unfold Fo.putF
    split <;> simp only [Fo.len] <;> rw [Fo.len_put op n H K r]
theorem Fo.put_app (op n : Int) (H : Hd) (K : Fo) : ∀ f g : Fo, Fo.putF op n H K (f.app g) = (Fo.putF op n H K f).app (Fo.putF op n H K g)
  | .nil, g => rfl
  | .cons h k r, g => by
    simp only [Fo.app, Fo.putF]
    split
    · simp only [Fo.app]; rw [Fo.put_app op n H K r g]
    · simp only [Fo.app]; rw [Fo.put_app op n H K r g]
theorem Fo.take_succ : ∀ {f : Fo} {j : Nat}, j < f.len → f.take (j + 1) = (f.take j).app (.cons (f.get j).1 (f.get j).2 .nil)
  | .nil, _, h => by simp [Fo.len] at h
  | .cons h k r, 0, _ => by rw [Fo.get_zero]; cases r <;> rfl
  | .cons h k r, j + 1, hj => by
    rw [Fo.get_succ]
    show Fo.cons h k (r.take (j + 1)) = Fo.cons h k ((r.take j).app _)
    rw [Fo.take_succ (f := r) (j := j) (by simpa [Fo.len] using hj)]
theorem Fo.take_zero (f : Fo) : f.take 0 = .nil := by cases f <;> rfl
theorem Fo.take_all : ∀ f : Fo, f.take f.len = f
  | .nil => rfl
  | .cons h k r => by show Fo.cons h k (r.take r.len) = _; rw [Fo.take_all r]
theorem CellsOf.app {w : World} : ∀ {f g : Fo} {cs ds : List Value}, CellsOf w f cs → CellsOf w g ds → CellsOf w (f.app g) (cs ++ ds)
  | .nil, g, cs, ds, h, h2 => by have : cs = [] := h; subst this; exact h2
  | .cons h k r, g, cs, ds, ⟨q, cap, cs', e, hs, hr⟩, h2 => ⟨q, cap, cs' ++ ds, by rw [e]; rfl, hs, CellsOf.app hr h2⟩
theorem CellsOf.fo {w : World} : ∀ {f : Fo} {cs : List Value} {b o : Nat}, CellsOf w f cs → (∀ j u, cs[j]? = some u → w.cell? ⟨b, o + j, none⟩ = some u) → FoAt w f b o
  | .nil, _, _, _, _, _ => trivial
  | .cons h k r, cs, b, o, ⟨q, cap, cs', e, hs, hr⟩, hc => by
    subst e
    refine ⟨q, cap, ⟨hc 0 _ rfl, hc 1 _ rfl, hc 2 _ rfl, hc 3 _ rfl, hs.lc, hs.cm⟩, hs.at_, CellsOf.fo hr fun j u hj => ?_⟩
    have := hc (j + 4) u (by simpa using hj)
    rw [show o + (j + 4) = o + 4 + j by omega] at this
    exact this

/-- A tree in which that tree has been put. -/
def putT (op n : Int) (H : Hd) (K : Fo) (h : Hd) (k : Fo) : Hd × Fo := if h.op = op ∧ h.n = n then (H, K) else (h, Fo.putF op n H K k)
theorem put_one (op n : Int) (H : Hd) (K : Fo) (h : Hd) (k : Fo) : Fo.putF op n H K (.cons h k .nil) = .cons (putT op n H K h k).1 (putT op n H K h k).2 .nil := by
  unfold putT; simp only [Fo.putF]; split <;> rfl

/-- What the document's Put answers: a tree of new memory and of what was put. -/
def RpPost (w : World) (Q : Option Addr) (C : Nat) (K : Fo) (h' : Hd) (k' : Fo) (e : Ending) (w' : World) : Prop :=
  ∃ q' cap', e = .returned (.agg #[.int .u8 h'.op, .string h'.name, .int .i64 h'.n, .slice q' k'.len cap']) ∧
    (∀ w'' : World, (∀ b, w.heap.size ≤ b → b < w'.heap.size → w''.heap[b]? = w'.heap[b]?) → SlF w'' Q C K → SlF w'' q' cap' k') ∧ Below w.heap.size w w'

/-- What it keeps while it goes along the Kids. -/
structure RpI (w : World) (h : Hd) (k : Fo) (q : Option Addr) (L cap : Nat) (op n : Int) (H : Hd) (K : Fo) (Q : Option Addr) (LK C : Nat) (j : Nat) (v : Value) (wr : World) : Prop where
  le : j ≤ L
  own : ∃ cs, wr.ownsRow (w.heap.size + 4) 25 4 v j cs ∧ ∀ w'' : World, (∀ b, w.heap.size + 4 ≤ b → b < wr.heap.size → v.ownBlock ≠ some b → w''.heap[b]? = wr.heap[b]?) → SlF w'' Q C K → CellsOf w'' (Fo.putF op n H K (k.take j)) cs
  b4 : wr.heap[w.heap.size]? = some (.cells #[.int .u8 h.op, .string h.name, .int .i64 h.n, .slice q L cap] 25 (0, 0))
  b7 : wr.heap[w.heap.size + 1]? = some (.cells #[.int .u8 H.op, .string H.name, .int .i64 H.n, .slice Q LK C] 25 (0, 0))
  b8 : wr.heap[w.heap.size + 2]? = some (.cells #[.int .u8 0, .string ⟨#[]⟩, .int .i64 0, .slice none 0 0] 25 (0, 0))
  b9 : wr.heap[w.heap.size + 3]? = some (.cells #[.int .u8 h.op, .string h.name, .int .i64 h.n, v] 25 (0, 0))
  below : Below w.heap.size w wr
  room : w.heap.size + 4 ≤ wr.heap.size

theorem RpI.start (w : World) (h : Hd) (k : Fo) (q : Option Addr) (cap : Nat) (op n : Int) (H : Hd) (K : Fo) (Q : Option Addr) (C : Nat) :
    RpI w h k q k.len cap op n H K Q K.len C 0 (.slice none 0 0) ((((w.alloc (.cells #[.int .u8 h.op, .string h.name, .int .i64 h.n, .slice q k.len cap] 25)).alloc (.cells #[.int .u8 H.op, .string H.name, .int .i64 H.n, .slice Q K.len C] 25)).alloc (.cells #[.int .u8 0, .string ⟨#[]⟩, .int .i64 0, .slice none 0 0] 25)).alloc (.cells #[.int .u8 h.op, .string h.name, .int .i64 h.n, .slice none 0 0] 25)) := by
  have e1 := World.alloc_heap_new w (.cells #[.int .u8 h.op, .string h.name, .int .i64 h.n, .slice q k.len cap] 25)
  have e2 := World.alloc_heap_new (w.alloc (.cells #[.int .u8 h.op, .string h.name, .int .i64 h.n, .slice q k.len cap] 25)) (.cells #[.int .u8 H.op, .string H.name, .int .i64 H.n, .slice Q K.len C] 25)
  have e3 := World.alloc_heap_new ((w.alloc (.cells #[.int .u8 h.op, .string h.name, .int .i64 h.n, .slice q k.len cap] 25)).alloc (.cells #[.int .u8 H.op, .string H.name, .int .i64 H.n, .slice Q K.len C] 25)) (.cells #[.int .u8 0, .string ⟨#[]⟩, .int .i64 0, .slice none 0 0] 25)
  have e4 := World.alloc_heap_new (((w.alloc (.cells #[.int .u8 h.op, .string h.name, .int .i64 h.n, .slice q k.len cap] 25)).alloc (.cells #[.int .u8 H.op, .string H.name, .int .i64 H.n, .slice Q K.len C] 25)).alloc (.cells #[.int .u8 0, .string ⟨#[]⟩, .int .i64 0, .slice none 0 0] 25)) (.cells #[.int .u8 h.op, .string h.name, .int .i64 h.n, .slice none 0 0] 25)
  simp only [World.size_alloc] at e2 e3 e4
  refine ⟨Nat.zero_le _, ⟨[], World.ownsRow_nil _ _ _ _, fun w'' _ _ => by rw [Fo.take_zero]; rfl⟩, ?_, ?_, ?_, e4, (((below_box _ _).alloc (by simp) _).alloc (by simp; omega) _).alloc (by simp; omega) _, by simp⟩
  · exact ((below_box _ _).block _ (by simp; omega)).trans (((below_box _ _).block _ (by simp; omega)).trans (((below_box _ _).block _ (by simp)).trans e1))
  · exact ((below_box _ _).block _ (by simp)).trans (((below_box _ _).block _ (by simp)).trans e2)
  · exact ((below_box _ _).block _ (by simp)).trans e3

theorem step_append_at {P : Program} {ops : Array Oper} {o : Oper} {a : Act} {w : World} {K : Act → World → Prop} {Q : Exit → Act → World → Prop} {E : Prop}
    (hg : o.guard = none) (s x : Operand) (t : TypeId) (hop : o.op = Op.call { callee := Callee.builtin Builtin.append, args := #[s, x], argTypes := #[t, t] })
    (base : Nat) (e : TypeId) (i : TypeInfo) (z : Value) (size bytes : Nat) (h1 : P.underlying t = some (.slice e)) (h2 : P.info? e = some i) (h3 : i.zero = some z) (h4 : i.size = size) (h5 : i.bytes = bytes) (h6 : z.cells.size = size) (h7 : 0 < size)
    (v : Value) (n : Nat) (xs : List Value) (hs : a.eval s = v) (hown : w.ownsRow base e size v n xs)
    (ad : Addr) (m c : Nat) (news : List Value) (hx : a.eval x = .slice (some ad) m c) (hn : news.length = m * size) (hc : ∀ j u, news[j]? = some u → w.cell? (ad.add j) = some u) (h1c : ∀ u ∈ news, u.oneCell' = true)
    (b1 : n + m ≤ maxLen) (b2 : (n + m) * bytes ≤ 140737488355328) (hb : base ≤ w.heap.size)
    (hK : ∀ v' w', w'.ownsRow base e size v' (n + m) (xs ++ news) → w.grownBy w' v.ownBlock → (v'.ownBlock = v.ownBlock ∨ v'.ownBlock = some w.heap.size) → K (a.put o.dst v') w') :
    if Region.wanted o (yielded ops a.tmps) = true then Oper.wp P o a w K Q else E := by
  have hw : Region.wanted o (yielded ops a.tmps) = true := by simp [Region.wanted, hg]
  rw [if_pos hw]
  obtain ⟨v', w', hrun, r1, r2, _, r4⟩ := run_append_own_at (P := P) w base t o.type e i z size bytes h1 h2 h3 h4 h5 h6 h7 v n xs hown ad m c news hn hc h1c b1 b2 hb
  unfold Oper.wp
  simp [execOp, hop, resolve, invoke, builtin, hs, hx, hrun, Result.andThen]
  exact hK v' w' r1 r2 r4
theorem kid_one (a : Int) (b : ByteArray) (c : Int) (q : Option Addr) (l m : Nat) : ∀ u ∈ [Value.int .u8 a, .string b, .int .i64 c, .slice q l m], u.oneCell' = true := by
  intro u hu; simp at hu; rcases hu with rfl | rfl | rfl | rfl <;> rfl
theorem kid_bd {j L : Nat} (h : j < L) (h2 : L ≤ 1099511627776) : j + 1 ≤ maxLen := by unfold maxLen; omega
theorem kid_bd2 {j L : Nat} (h : j < L) (h2 : L ≤ 1099511627776) : (j + 1) * 56 ≤ 140737488355328 := by omega
theorem kid_bd3 {w1 : World} {o : Obj} {B : Nat} (h : B ≤ w1.heap.size) : B ≤ (w1.alloc o).heap.size := by simp; omega
theorem setCell_grown (W : World) (b i : Nat) (v : Value) : W.grownBy (W.setCell ⟨b, i, none⟩ v) (some b) :=
  ⟨rfl, rfl, rfl, by simp, fun k _ hk => Below.heap_setCell _ _ _ k (fun e => hk (by rw [e]))⟩
theorem RpI.go {w : World} {h : Hd} {k : Fo} {q : Option Addr} {L cap : Nat} {op n : Int} {H : Hd} {K : Fo} {Q : Option Addr} {LK C j : Nat} {v v' : Value} {wr w1 w2 : World} {cs : List Value} {q2 : Option Addr} {cap2 : Nat} {o : Obj}
    (hI : RpI w h k q L cap op n H K Q LK C j v wr) (hL : k.len = L) (hj : j < L)
    (hv : ∀ r, v.ownBlock = some r → w.heap.size + 4 ≤ r ∧ r < wr.heap.size)
    (hcs : ∀ w'' : World, (∀ b, w.heap.size + 4 ≤ b → b < wr.heap.size → v.ownBlock ≠ some b → w''.heap[b]? = wr.heap[b]?) → SlF w'' Q C K → CellsOf w'' (Fo.putF op n H K (k.take j)) cs)
    (hb1 : Below wr.drew.heap.size wr.drew w1)
    (hk2 : ∀ w'' : World, (∀ b, wr.drew.heap.size ≤ b → b < w1.heap.size → w''.heap[b]? = w1.heap[b]?) → SlF w'' Q C K → SlF w'' q2 cap2 (putT op n H K (k.get j).1 (k.get j).2).2)
    (hown : w2.ownsRow (w.heap.size + 4) 25 4 v' (j + 1) (cs ++ [.int .u8 (putT op n H K (k.get j).1 (k.get j).2).1.op, .string (putT op n H K (k.get j).1 (k.get j).2).1.name, .int .i64 (putT op n H K (k.get j).1 (k.get j).2).1.n, .slice q2 (putT op n H K (k.get j).1 (k.get j).2).2.len cap2]))
    (hg : (w1.alloc o).grownBy w2 v.ownBlock) (hat : v'.ownBlock = v.ownBlock ∨ v'.ownBlock = some (w1.alloc o).heap.size) :
    RpI w h k q L cap op n H K Q LK C (j + 1) v' (w2.setCell ⟨w.heap.size + 3, 3, none⟩ v') := by
  have hjk : j < k.len := by omega
  have hs1 : wr.heap.size ≤ w1.heap.size := hb1.size
  have hs2 : (w1.alloc o).heap.size ≤ w2.heap.size := hg.size
  rw [World.size_alloc] at hs2 hat
  have hroom := hI.room
  have hset : ∀ b, b ≠ w.heap.size + 3 → (w2.setCell ⟨w.heap.size + 3, 3, none⟩ v').heap[b]? = w2.heap[b]? := fun b hb => Below.heap_setCell _ _ _ b hb
  have h21 : ∀ b, b < w1.heap.size → v.ownBlock ≠ some b → w2.heap[b]? = w1.heap[b]? := fun b hb hne =>
    (hg.block b (by rw [World.size_alloc]; omega) (fun e => hne e.symm)).trans ((below_box w1 o).block b hb)
  have h1r : ∀ b, b < wr.heap.size → w1.heap[b]? = wr.heap[b]? := fun b hb => hb1.block b hb
  have hold : ∀ b, b < w.heap.size + 4 → v.ownBlock ≠ some b := fun b hb e => by have := (hv b e).1; omega
  have hsz3 : (w2.setCell ⟨w.heap.size + 3, 3, none⟩ v').heap.size = w2.heap.size := by simp
  refine ⟨hj, ⟨_, hown.kept (row := some (w.heap.size + 3)) (setCell_grown w2 _ 3 v') (.inr ?_), ?_⟩, ?_, ?_, ?_, ?_, ?_, by rw [hsz3]; omega⟩
  · intro e; have := (hown.lt _ e).1; omega
  · intro w'' hag hK
    rw [Fo.take_succ hjk, Fo.put_app, put_one]
    refine CellsOf.app (hcs w'' (fun b hb1' hb2 hb3 => ?_) hK) ⟨q2, cap2, [], rfl, hk2 w'' (fun b hb1' hb2 => ?_) hK, rfl⟩
    · rw [hag b hb1' (by rw [hsz3]; omega) (by rcases hat with e | e <;> rw [e]; exact hb3; intro e2; have := Option.some.inj e2; omega), hset b (by omega), h21 b (by omega) hb3, h1r b hb2]
    · have hb1'' : wr.heap.size ≤ b := hb1'
      have hne : v.ownBlock ≠ some b := fun e => by have := (hv b e).2; omega
      rw [hag b (by omega) (by rw [hsz3]; omega) (by rcases hat with e | e <;> rw [e]; exact hne; intro e2; have := Option.some.inj e2; omega), hset b (by omega), h21 b hb2 hne]
  · rw [hset _ (by omega), h21 _ (by omega) (hold _ (by omega)), h1r _ (by omega)]; exact hI.b4
  · rw [hset _ (by omega), h21 _ (by omega) (hold _ (by omega)), h1r _ (by omega)]; exact hI.b7
  · rw [hset _ (by omega), h21 _ (by omega) (hold _ (by omega)), h1r _ (by omega)]; exact hI.b8
  · have : w2.heap[w.heap.size + 3]? = some (.cells #[.int .u8 h.op, .string h.name, .int .i64 h.n, v] 25 (0, 0)) := by
      rw [h21 _ (by omega) (hold _ (by omega)), h1r _ (by omega)]; exact hI.b9
    simpa using row_set this 3 v'
  · have b1 : Below w.heap.size w w1 := hI.below.drew.trans (hb1.mono (by have := hI.below.size; exact this))
    have b2 : Below w.heap.size w w2 := (b1.alloc b1.size o).grown hg (by rw [World.size_alloc]; have := b1.size; omega) (fun r e => by have := (hv r e).1; omega)
    exact b2.setCell (by simp) _

theorem RpI.nine {w : World} {h : Hd} {k : Fo} {q : Option Addr} {L cap : Nat} {op n : Int} {H : Hd} {K : Fo} {Q : Option Addr} {LK C j : Nat} {v : Value} {wr w1 w2 : World} {o : Obj}
    (hI : RpI w h k q L cap op n H K Q LK C j v wr) (hv : ∀ r, v.ownBlock = some r → w.heap.size + 4 ≤ r ∧ r < wr.heap.size) (hb1 : Below wr.drew.heap.size wr.drew w1) (hg : (w1.alloc o).grownBy w2 v.ownBlock) :
    w2.heap[w.heap.size + 3]? = some (.cells #[.int .u8 h.op, .string h.name, .int .i64 h.n, v] 25 (0, 0)) := by
  have hs1 : wr.heap.size ≤ w1.heap.size := hb1.size
  have hroom := hI.room
  refine (hg.block _ (by rw [World.size_alloc]; omega) (fun e => by have := (hv _ e.symm).1; omega)).trans (((below_box w1 o).block _ (by omega)).trans ((hb1.block (w.heap.size + 3) (by show _ < wr.heap.size; omega)).trans hI.b9))

theorem RpI.fin {w : World} {h : Hd} {k : Fo} {q : Option Addr} {L cap : Nat} {op n : Int} {H : Hd} {K : Fo} {Q : Option Addr} {LK C : Nat} {v : Value} {wr : World}
    (hI : RpI w h k q L cap op n H K Q LK C L v wr) (hL : k.len = L) :
    ∃ q' cap', v = .slice q' L cap' ∧ ∀ v0 v1 v2 v3, RpPost w Q C K h (Fo.putF op n H K k) (.returned (.agg #[.int .u8 h.op, .string h.name, .int .i64 h.n, .slice q' L cap'])) (World.set4 wr (w.heap.size + 2) v0 v1 v2 v3) := by
  obtain ⟨cs, hown, hcs⟩ := hI.own
  subst hL
  rw [Fo.take_all] at hcs
  have hlen := Fo.len_put op n H K k
  have hbel : ∀ v0 v1 v2 v3, Below w.heap.size w (World.set4 wr (w.heap.size + 2) v0 v1 v2 v3) := fun v0 v1 v2 v3 => hI.below.grown (set4_grown _ _ _ _ _ _) hI.below.size (fun r e => by have := Option.some.inj e; omega)
  have hag : ∀ (v0 v1 v2 v3 : Value) (w'' : World), (∀ b, w.heap.size ≤ b → b < (World.set4 wr (w.heap.size + 2) v0 v1 v2 v3).heap.size → w''.heap[b]? = (World.set4 wr (w.heap.size + 2) v0 v1 v2 v3).heap[b]?) → ∀ b, w.heap.size + 4 ≤ b → b < wr.heap.size → w''.heap[b]? = wr.heap[b]? := fun v0 v1 v2 v3 w'' hh b h1 h2 => by
    have hg := set4_grown wr (w.heap.size + 2) v0 v1 v2 v3
    exact (hh b (by omega) (Nat.lt_of_lt_of_le h2 hg.size)).trans (hg.block b h2 (fun e => by have := Option.some.inj e; omega))
  by_cases h0 : k.len = 0
  · have hn : ∃ q' cap', v = .slice q' k.len cap' ∧ cap' ≤ maxLen := by
      rcases hown.2 with ⟨rfl, e⟩ | ⟨g, c, cur, rfl, _, _, _, hc, _⟩
      · exact ⟨none, 0, by rw [e], Nat.zero_le _⟩
      · exact ⟨_, c, rfl, hc⟩
    obtain ⟨q', cap', rfl, hc⟩ := hn
    refine ⟨q', cap', rfl, fun v0 v1 v2 v3 => ⟨q', cap', by rw [hlen], fun w'' _ _ => ⟨by rw [hlen]; omega, hc, fun h' => by rw [hlen] at h'; omega⟩, hbel _ _ _ _⟩⟩
  · obtain ⟨g, cap', cur, rfl, hg, hgc, hc1, hc2, hcell⟩ := own_some hown (by omega)
    have hlt := (Array.getElem?_eq_some_iff.1 hgc).1
    refine ⟨_, cap', rfl, fun v0 v1 v2 v3 => ⟨_, cap', by rw [hlen], fun w'' hh hK => ⟨by rw [hlen]; exact hc1, hc2, fun _ => ⟨g, 0, rfl, ?_⟩⟩, hbel _ _ _ _⟩⟩
    have ha := hag v0 v1 v2 v3 w'' hh
    refine CellsOf.fo (hcs w'' (fun b h1 h2 _ => ha b h1 h2) hK) fun j u hj => ?_
    have e : w''.heap[g]? = wr.heap[g]? := ha g hg hlt
    exact (World.cell?_of_block (a := ⟨g, 0 + j, none⟩) e).trans (hcell j u hj)

set_option maxRecDepth 100000 in
set_option maxHeartbeats 2000000 in
theorem refPut_any (op n : Int) (H : Hd) (K : Fo) (Q : Option Addr) (C : Nat) (m : Nat) : ∀ (h : Hd) (k : Fo) (q : Option Addr) (cap : Nat) (w : World), k.size < m → 1 + k.size ≤ 1099511627776 → SlF w q cap k → SlF w Q C K →
    Calls Try.prog 26 #[.agg #[.int .u8 h.op, .string h.name, .int .i64 h.n, .slice q k.len cap], .int .u8 op, .int .i64 n, .agg #[.int .u8 H.op, .string H.name, .int .i64 H.n, .slice Q K.len C]] w (RpPost w Q C K (putT op n H K h k).1 (putT op n H K h k).2) := by
  induction m with
  | zero => intro h k q cap w hm; omega
  | succ m ih =>
    intro h k q cap w hm hsz hsl hSl
    by_cases hc : h.op = op ∧ h.n = n
    · have e : putT op n H K h k = (H, K) := by unfold putT; rw [if_pos hc]
      rw [e]
      obtain ⟨rfl, rfl⟩ := hc
      clear ih hsl e
      go_enter Try.func26, Try.ntmps26
      go_wp2
      refine bodyPost_ret (v := .agg #[.int .u8 H.op, .string H.name, .int .i64 H.n, .slice Q K.len C]) (by simp [results, Try.results26, go_sem]) rfl ⟨_, _, rfl, fun w'' _ h2 => h2, ?_⟩
      exact ((below_box _ _).alloc (by simp) _).alloc (by simp; omega) _
    · have e : putT op n H K h k = (h, Fo.putF op n H K k) := by unfold putT; rw [if_neg hc]
      rw [e]
      clear e
      obtain ⟨i0, hi, hz0, hz1, hz2⟩ := info_parts info25
      have HST := Lib.hid (RpI.start w h k q cap op n H K Q C)
      have HIH : Hid (∀ j, j < k.len → ∀ (q' : Option Addr) (cap' : Nat) (w' : World), SlF w' q' cap' (k.get j).2 → SlF w' Q C K → Calls Try.prog 26 #[.agg #[.int .u8 (k.get j).1.op, .string (k.get j).1.name, .int .i64 (k.get j).1.n, .slice q' (k.get j).2.len cap'], .int .u8 op, .int .i64 n, .agg #[.int .u8 H.op, .string H.name, .int .i64 H.n, .slice Q K.len C]] w' (RpPost w' Q C K (putT op n H K (k.get j).1 (k.get j).2).1 (putT op n H K (k.get j).1 (k.get j).2).2)) :=
        Lib.hid fun j hj q' cap' w' h1 h2 => ih _ _ q' cap' w' (by have := Fo.get_size hj; omega) (by have := Fo.get_size hj; omega) h1 h2
      have hlc := hsl.lc
      have hcm := hsl.cm
      unfold maxLen at hcm
      have hlk := Fo.len_le_size k
      have HSL := Lib.hid hsl
      have HSK := Lib.hid hSl
      clear hsl hSl ih hm
      have htest : (h.op == op) = false ∨ ((h.op == op) = true ∧ (h.n == n) = false) := by
        by_cases h1 : h.op = op
        · right; exact ⟨by simpa using h1, by simpa using fun h2 => hc ⟨h1, h2⟩⟩
        · left; simpa using h1
      clear hc
      have HL : Hid (Fo.len (Fo.putF op n H K k) = k.len) := Lib.hid (Fo.len_put _ _ _ _ _)
      generalize hLK : K.len = LK at *
      generalize hLd : k.len = L at *
      have HLD := Lib.hid hLd
      clear hLd
      rcases htest with t1 | ⟨t1, t2⟩
      all_goals
        go_enter Try.func26, Try.ntmps26
        go_wp2
        go_loopw [10] (fun i wr => ∃ (j : Nat) (v : Value), i = .int .i64 j ∧ RpI w h k q L cap op n H K Q LK C j v wr) (fun i _ => L - (intOf i).toNat)
        case atStart => exact ⟨0, _, rfl, HST.out⟩
        case round =>
          obtain ⟨j, v, rfl, hI⟩ := hrel
          obtain ⟨a0, a1, a2, a3, _⟩ := row4 hI.b4
          obtain ⟨b0, b1, b2, b3, _⟩ := row4 hI.b7
          obtain ⟨c0, c1, c2, c3, f0, f1, f2, f3⟩ := row4 hI.b9
          have hjL := hI.le
          obtain ⟨cs, hown, hcells⟩ := hI.own
          have HI := Lib.hid hI
          have HO := Lib.hid hown
          have HCS := Lib.hid hcells
          clear hI hown hcells
          by_cases hj : j < L
          · have hjk : j < k.len := by rw [HLD.out]; exact hj
            obtain ⟨b, o, rfl, hfo⟩ := ((HSL.out.below HI.out.below).at_ (Nat.lt_of_le_of_lt (Nat.zero_le _) hjk))
            obtain ⟨q1, cap1, hd1, hs1⟩ := hfo.get j hjk
            have d0 := hd1.c0
            have d1 := hd1.c1
            have d2 := hd1.c2
            have d3 := hd1.c3
            have HC := Lib.hid fun w' hb => HIH.out j hj q1 cap1 w' (hs1.below (w := wr) hb) (HSK.out.below (HI.out.below.trans (hb.mono HI.out.below.size)))
            have HBD : Hid (Below wr.heap.size wr wr.drew) := Lib.hid (Below.refl _ _).drew
            clear hd1 hfo hs1
            have hLm : L ≤ 1099511627776 := by omega
            have HV := Lib.hid HO.out.lt
            have h9lt : w.heap.size + 3 < wr.heap.size := by have := HI.out.room; omega
            go_wp2
            go_region_law (first
              | (refine step_append_at rfl (.tmp 37) (.tmp 47) 23 rfl (w.heap.size + 4) 25 i0 _ 4 56 Try.underlying23 hi hz0 hz1 hz2 rfl (by decide) _ _ _ rfl (World.ownsRow.alloc HO1.out _) ⟨w1.heap.size, 0, none⟩ 1 1 [.int .u8 (putT op n H K (k.get j).1 (k.get j).2).1.op, .string (putT op n H K (k.get j).1 (k.get j).2).1.name, .int .i64 (putT op n H K (k.get j).1 (k.get j).2).1.n, .slice q2 (putT op n H K (k.get j).1 (k.get j).2).2.len cap2] rfl rfl (cells_new w1 [.int .u8 (putT op n H K (k.get j).1 (k.get j).2).1.op, .string (putT op n H K (k.get j).1 (k.get j).2).1.name, .int .i64 (putT op n H K (k.get j).1 (k.get j).2).1.n, .slice q2 (putT op n H K (k.get j).1 (k.get j).2).2.len cap2] 25) (kid_one _ _ _ _ _ _) (kid_bd hj hLm) (kid_bd2 hj hLm) (kid_bd3 HS1.out) ?_; intro v' w2 hown2 hg2 hat2; obtain ⟨g0, g1, g2, g3, k0, k1, k2, k3⟩ := row4 (HI.out.nine HV.out HB1.out hg2); have HG := Lib.hid (HI.out.go HLD.out hj HV.out HCS.out HB1.out HK2.out hown2 hg2 hat2); obtain ⟨gg, cg, cur, rfl, _⟩ := own_some hown2 (by omega); clear hown2 hg2 hat2)
              | (go_simp; go_at_call 26; refine (HC.out _ HBD.out).mono ?_; rintro e w1 ⟨q2, cap2, rfl, hk2, hb1⟩; obtain ⟨m0, m1, m2, m3, _⟩ := row4 ((hb1.block (w.heap.size + 3) h9lt).trans HI.out.b9); have HB1 := Lib.hid hb1; have HK2 := Lib.hid hk2; have HO1 := Lib.hid (own_grown (w := wr.drew) HO.out hb1); have HS1 : Hid (w.heap.size + 4 ≤ w1.heap.size) := Lib.hid (Nat.le_trans HI.out.room hb1.size); have h9l1 : w.heap.size + 3 < w1.heap.size := HS1.out; clear hk2 hb1))
            all_goals go_wp2
            all_goals exact ⟨⟨j + 1, _, by go_num, HG.out⟩, by simp [intOf]; omega⟩
          · have hje : j = L := by omega
            have HJ := Lib.hid hje
            clear hje
            have hI2 := HI.out
            rw [HJ.out] at hI2
            obtain ⟨q', cap', rfl, hfin⟩ := hI2.fin HLD.out
            obtain ⟨y0, y1, y2, y3, z0, z1, z2, z3⟩ := row4 hI2.b8
            have HF := Lib.hid (hfin (.int .u8 h.op) (.string h.name) (.int .i64 h.n) (.slice q' L cap'))
            clear hI2 hfin
            go_wp2
            refine bodyPost_ret (v := .agg #[.int .u8 h.op, .string h.name, .int .i64 h.n, .slice q' L cap']) (by simp [results, Try.results26, go_sem, y0, y1, y2, y3]) rfl HF.out

end Go.Proofs.Ytmjijmkdeblefaa
