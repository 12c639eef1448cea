/- slices.Backward over fields. -/
import Derived.Test.YtmjijmkdeblefaaKs
import Derived.RangeFuncNested
import Derived.RangeFuncBound
import Derived.RangeFuncCalls
import Derived.RangeFuncLeaves
import Derived.Shelf.Abstract
import Derived.WalkKit
import Derived.OwnWalkIn
import Derived.TacticsInMore
import Derived.LoopNIn
import Derived.LoopIn
import Derived.Test.YtmjijmkdeblefaaKtA
import Derived.Test.YtmjijmkdeblefaaKpE
import Derived.Test.YtmjijmkdeblefaaKpA
import Derived.Test.YtmjijmkdeblefaaKdR
import Derived.Test.YtmjijmkdeblefaaKdI
import Derived.Deep.RegionHeld3
import Derived.Test.YtmjijmkdeblefaaKdY
import Derived.StillTailTactics
import Derived.WalkLawsBesides
import Derived.BigRegion
import Derived.Test.YtmjijmkdeblefaaLawA
import Derived.Test.YtmjijmkdeblefaaLawB
namespace Go.Proofs.Ytmjijmkdeblefaa
open Go.RowKit Go.Shelf LM
set_option linter.unusedVariables false
attribute [local go_sem] Oper.semAt_some

/-- A slice that reads as these fields. -/
structure FdSl (w : World) (a : Option Addr) (cap : Nat) (fs : List Fld) : Prop where
  lc : fs.length ≤ cap
  cm : cap ≤ maxLen
  at_ : 0 < fs.length → ∃ b o, a = some ⟨b, o, none⟩ ∧ b < w.heap.size ∧ ∀ i, (h : i < fs.length) → w.cell? ⟨b, o + i * 5, none⟩ = some (.string fs[i].name) ∧ w.cell? ⟨b, o + i * 5 + 1, none⟩ = some (.int .u8 fs[i].h.op) ∧
    w.cell? ⟨b, o + i * 5 + 2, none⟩ = some (.string fs[i].h.name) ∧ w.cell? ⟨b, o + i * 5 + 3, none⟩ = some (.int .i64 fs[i].h.n) ∧ w.cell? ⟨b, o + i * 5 + 4, none⟩ = some (.slice fs[i].q fs[i].k.len fs[i].cap)
theorem FdSl.below {w w' : World} (hb : Below w.heap.size w w') {a : Option Addr} {cap : Nat} {fs : List Fld} (h : FdSl w a cap fs) : FdSl w' a cap fs :=
  ⟨h.lc, h.cm, fun h0 => by
    obtain ⟨b, o, e, hlt, hc⟩ := h.at_ h0
    have k : ∀ x, w'.cell? ⟨b, x, none⟩ = w.cell? ⟨b, x, none⟩ := fun x => hb.cell (p := ⟨b, x, none⟩) hlt
    exact ⟨b, o, e, Nat.lt_of_lt_of_le hlt hb.size, fun i hi => by simp only [k]; exact hc i hi⟩⟩
theorem FlAt.sl {W : World} {B g cap : Nat} {fs : List Fld} (h : FlAt W B g cap fs) : FdSl W (some ⟨g, 0, none⟩) cap fs := by
  obtain ⟨cur, _, _, hc, hm, _⟩ := h.parts
  exact ⟨hc, hm, fun _ => ⟨g, 0, rfl, h.lt, fun i hi => by rw [Nat.zero_add]; exact h.cells hi⟩⟩
theorem own_fdSl {W : World} {B : Nat} {v : Value} {fs : List Fld} (h : W.ownsRow B 40 5 v fs.length (fldCells fs)) : ∃ a cap, v = .slice a fs.length cap ∧ FdSl W a cap fs := by
  rcases h.2 with ⟨rfl, h0⟩ | ⟨g, cap, cur, rfl, _, _, hc, hm, _⟩
  · exact ⟨none, 0, by rw [h0], by omega, Nat.zero_le _, fun h1 => by omega⟩
  · exact ⟨_, cap, rfl, FlAt.sl h⟩

/-- The last k of them, from the last on, with their places. -/
def bkw (fs : List Fld) (k : Nat) : List (Nat × Fld) := (List.range k).map fun j => (fs.length - 1 - j, fs.getD (fs.length - 1 - j) default)
theorem bkw_succ (fs : List Fld) (k : Nat) : bkw fs (k + 1) = bkw fs k ++ [(fs.length - 1 - k, fs.getD (fs.length - 1 - k) default)] := by simp [bkw, List.range_succ]
theorem bkw_length (fs : List Fld) (k : Nat) : (bkw fs k).length = k := by simp [bkw]
theorem bkw_rev (fs : List Fld) : ∀ k, k ≤ fs.length → ((bkw fs k).map (·.2)).reverse = fs.drop (fs.length - k)
  | 0, _ => by simp [bkw]
  | k + 1, h => by
    rw [bkw_succ, List.map_append, List.reverse_append, bkw_rev fs k (by omega)]
    have e : fs.length - (k + 1) < fs.length := by omega
    rw [List.drop_eq_getElem_cons e, show fs.length - (k + 1) + 1 = fs.length - k by omega]
    simp [List.getD_eq_getElem?_getD, show fs.length - 1 - k = fs.length - (k + 1) by omega, List.getElem?_eq_getElem e]

theorem Backward_any (a : Option Addr) (len cap : Nat) (w : World) :
    Calls Try.prog 126 #[.slice a len cap] w fun e w' => e = .returned (.func (.func 146) #[] #[.pointer (some ⟨w.heap.size, 0, none⟩)]) ∧ w' = w.alloc (.cells #[.slice a len cap] 36) := by
  go_enter Try.func126, Try.ntmps126
  go_wp2
  go_ret
  exact ⟨rfl, rfl⟩

def encB (x : Nat × Fld) : Array Value := #[Value.int .i64 (x.1 : Int), .agg #[.string x.2.name, .int .u8 x.2.h.op, .string x.2.h.name, .int .i64 x.2.h.n, .slice x.2.q x.2.k.len x.2.cap]]

/-- What the iterator reads between two rounds lies as it lay. -/
def KpB (Bs : Nat) (q : Option Addr) (len : Nat) (A B : World) : Prop := B.heap[Bs]? = A.heap[Bs]? ∧ ∀ b o, q = some ⟨b, o, none⟩ → 0 < len → B.heap[b]? = A.heap[b]?
theorem KpB.t {Bs : Nat} {q : Option Addr} {len : Nat} {A B C : World} (h : KpB Bs q len A B) (k : KpB Bs q len B C) : KpB Bs q len A C := ⟨k.1.trans h.1, fun b o e h0 => (k.2 b o e h0).trans (h.2 b o e h0)⟩
theorem KpB.b {Bs : Nat} {q : Option Addr} {len : Nat} {w : World} (h1 : Bs < w.heap.size) (h2 : ∀ b o, q = some ⟨b, o, none⟩ → 0 < len → b < w.heap.size) (W : World) (l : Nat) (o o' : Obj) (hl : w.heap.size ≤ l) (_ : W.heap[l]? = some o) (_ : o.isCells = false) (_ : o.isWalk = false) :
    KpB Bs q len W (W.putObj l o') :=
  ⟨World.putObj_heap_other (by omega), fun b o e h0 => World.putObj_heap_other (by have := h2 b o e h0; omega)⟩
theorem KpB.refl (Bs : Nat) (q : Option Addr) (len : Nat) (A : World) : KpB Bs q len A A := ⟨rfl, fun _ _ _ _ => rfl⟩
theorem KpB.grown {Bs : Nat} {q : Option Addr} {len : Nat} {A B : World} {row : Option Nat} (hg : A.grownBy B row) (h1 : Bs < A.heap.size) (h2 : ∀ b o, q = some ⟨b, o, none⟩ → 0 < len → b < A.heap.size) (n1 : some Bs ≠ row) (n2 : ∀ b o, q = some ⟨b, o, none⟩ → 0 < len → some b ≠ row) : KpB Bs q len A B :=
  ⟨hg.block _ h1 n1, fun b o e h0 => hg.block _ (h2 b o e h0) (n2 b o e h0)⟩

set_option maxRecDepth 100000 in
set_option maxHeartbeats 1000000 in
theorem back1_in (F : Fence) (n : Nat) (h81 : F.fn 146) (hro : F.round = none) (hn : 1 ≤ n) (l Bs : Nat) (q : Option Addr) (cap : Nat) (fs : List Fld) (hreach : fs.length ≤ 1099511627776) (J Jx : List (Nat × Fld) → World → Prop)
    (hY : ∀ pre x W, J pre W → pre.length < fs.length → YieldAt F (n - 1) Try.prog l (encB x) W fun e W' =>
      (e = .returned (.bool true) ∧ J (pre ++ [x]) W' ∧ KpB Bs q fs.length W W') ∨ (e = .returned (.bool false) ∧ Jx (pre ++ [x]) W'))
    (W : World) (hBs : W.cell? ⟨Bs, 0, none⟩ = some (.slice q fs.length cap)) (hc : FdSl W q cap fs) (h0 : J [] W) :
    CallsIn F n Try.prog 146 #[.func (.yield l) #[] #[], .pointer (some ⟨Bs, 0, none⟩)] W fun e W' => (∃ v, e = .returned v) ∧
      ((∃ ys, ys = bkw fs fs.length ∧ J ys W') ∨ (∃ pre, (∃ k, k ≤ fs.length ∧ pre = bkw fs k) ∧ Jx pre W')) := by
  have HC := Lib.hid hc
  clear hc
  refine callsIn_of_wp Try.func146 rfl h81 ?_ hro
  simp only [Try.ntmps146, List.size_toArray, List.length_cons, List.length_nil, Nat.reduceAdd, Nat.reduceSub, Array.replicate_succ, Array.replicate_zero, List.push_toArray, List.append_toArray, List.nil_append, List.cons_append]
  gi_wp2
  gi_loopw [3] (fun i wr => ∃ k : Nat, k ≤ fs.length ∧ i = .int .i64 ((fs.length : Int) - 1 - (k : Int)) ∧ J (bkw fs k) wr ∧ Hid (KpB Bs q fs.length W wr)) (fun i _ => (intOf i + 1).toNat)
  case atStart => exact ⟨0, Nat.zero_le _, by simp, h0, Lib.hid (KpB.refl _ _ _ _)⟩
  case round =>
    obtain ⟨k, hk, rfl, hJs, hnx⟩ := hrel
    have hbs := (cell_same hnx.out.1 0).trans hBs
    by_cases hlt : k < fs.length
    · obtain ⟨i, hi⟩ : ∃ i, fs.length - 1 - k = i := ⟨_, rfl⟩
      have hin : i < fs.length := by omega
      obtain ⟨b, o, rfl, hbw, hcs⟩ := HC.out.at_ (by omega)
      have kc : ∀ x, wr.cell? ⟨b, x, none⟩ = W.cell? ⟨b, x, none⟩ := fun x => cell_same (hnx.out.2 b o rfl (by omega)) x
      obtain ⟨c0, c1, c2, c3, c4⟩ := hcs i hin
      rw [← kc] at c0 c1 c2 c3 c4
      have hgd : fs.getD i default = fs[i] := by simp [List.getD_eq_getElem?_getD, List.getElem?_eq_getElem hin]
      obtain ⟨fn, tmps, assign, body, hy, hR⟩ := hY _ (i, fs[i]) wr hJs (by rw [bkw_length]; exact hlt)
      have hstep : bkw fs (k + 1) = bkw fs k ++ [(i, fs[i])] := by rw [bkw_succ, hi, hgd]
      have HST := Lib.hid hstep
      clear kc hcs hgd hstep
      have ei : (fs.length : Int) - 1 - (k : Int) = (i : Int) := by omega
      rw [ei]
      have hi1 : (i : Int) < (fs.length : Int) := by omega
      have hd : decide ((i : Int) ≥ 0) = true := decide_eq_true (by omega)
      simp only [encB] at hy
      clear hi
      generalize hfi : fs[i] = f at *
      clear hfi
      gi_wp2
      refine hR.mono ?_
      rintro e W3 (⟨rfl, hJ3, hk3⟩ | ⟨rfl, hJx3⟩)
      · gi_wp2
        go_roundw
        case rel => exact ⟨k + 1, by omega, by congr 1; omega, by rw [HST.out]; exact hJ3, Lib.hid (hnx.out.t hk3)⟩
        case measure => simp [intOf]
      · gi_wp2
        refine bodyPost_ret (results_none rfl _ _ _) rfl ?_
        exact ⟨⟨_, rfl⟩, .inr ⟨_, ⟨k + 1, by omega, HST.out.symm⟩, hJx3⟩⟩
    · obtain rfl : k = fs.length := by omega
      have ei : (fs.length : Int) - 1 - (fs.length : Int) = -1 := by omega
      rw [ei]
      gi_wp2
      go_end0
      exact ⟨⟨_, rfl⟩, .inl ⟨_, rfl, hJs⟩⟩

theorem back_stops (F : Fence) (n : Nat) (h81 : F.fn 146) (hro : F.round = none) (hn : 1 ≤ n) (Bs : Nat) (q : Option Addr) (cap : Nat) (fs : List Fld) (hreach : fs.length ≤ 1099511627776) (w : World) (hBs : Bs < w.heap.size) (hc : w.cell? ⟨Bs, 0, none⟩ = some (.slice q fs.length cap)) (hI : FdSl w q cap fs) :
    SeqStopsK F n Try.prog 146 #[.pointer (some ⟨Bs, 0, none⟩)] encB (KpB Bs q fs.length) (fun ys => ys = bkw fs fs.length) (fun pre => ∃ k, k ≤ fs.length ∧ pre = bkw fs k) fs.length w := fun l J Jx W hW _ _ hY h0 =>
  back1_in F n h81 hro hn l Bs q cap fs hreach J Jx hY W ((hW.cell (p := ⟨Bs, 0, none⟩) hBs).trans hc) (hI.below hW) h0

/-! ### Rows that are made -/
/-- The row of these fields and this tail, plainly. -/
def rowT (t : Hd × Fo) : List (ByteArray × Hd × Fo) → Hd × Fo
  | [] => t
  | (nm, h, k) :: r => (⟨11, nm, 0⟩, .cons h k (.cons (rowT t r).1 (rowT t r).2 .nil))
/-- The row's own arrays, one a field. -/
inductive JCh (w : World) (th : Hd) (tk : Fo) (tq : Option Addr) (tc : Nat) : List Fld → Hd → Fo → Option Addr → Nat → List Nat → Prop
  | nil : JCh w th tk tq tc [] th tk tq tc []
  | cons {f : Fld} {fs : List Fld} {h : Hd} {k : Fo} {q : Option Addr} {c : Nat} {bs : List Nat} {b : Nat} (next : JCh w th tk tq tc fs h k q c bs) (hc : k.len ≤ c ∧ c ≤ maxLen)
      (hb : w.heap[b]? = some (.cells #[.int .u8 f.h.op, .string f.h.name, .int .i64 f.h.n, .slice f.q f.k.len f.cap, .int .u8 h.op, .string h.name, .int .i64 h.n, .slice q k.len c] 25 (0, 0))) :
      JCh w th tk tq tc (f :: fs) ⟨11, f.name, 0⟩ (.cons f.h f.k (.cons h k .nil)) (some ⟨b, 0, none⟩) 2 (b :: bs)
theorem JCh.kept {w w' : World} {th : Hd} {tk : Fo} {tq : Option Addr} {tc : Nat} {fs : List Fld} {h : Hd} {k : Fo} {q : Option Addr} {c : Nat} {bs : List Nat} (hj : JCh w th tk tq tc fs h k q c bs) (he : ∀ b ∈ bs, w'.heap[b]? = w.heap[b]?) : JCh w' th tk tq tc fs h k q c bs := by
  induction hj with
  | nil => exact .nil
  | cons next hc hb ih => exact .cons (ih (fun b hb => he b (by simp [hb]))) hc ((he _ (by simp)).trans hb)
theorem JCh.eq {w : World} {th : Hd} {tk : Fo} {tq : Option Addr} {tc : Nat} {fs : List Fld} {h : Hd} {k : Fo} {q : Option Addr} {c : Nat} {bs : List Nat} (hj : JCh w th tk tq tc fs h k q c bs) : (h, k) = rowT (th, tk) (fs.map fun f => (f.name, f.h, f.k)) := by
  induction hj with
  | nil => rfl
  | cons next hc hb ih => rw [List.map_cons, rowT, ← ih]
theorem JCh.cap {w : World} {th : Hd} {tk : Fo} {tq : Option Addr} {tc : Nat} {fs : List Fld} {h : Hd} {k : Fo} {q : Option Addr} {c : Nat} {bs : List Nat} (hj : JCh w th tk tq tc fs h k q c bs) (ht : tk.len ≤ tc ∧ tc ≤ maxLen) : k.len ≤ c ∧ c ≤ maxLen := by
  cases hj with
  | nil => exact ht
  | cons => exact ⟨Nat.le_refl _, by unfold maxLen; omega⟩
theorem JCh.slF {w : World} {th : Hd} {tk : Fo} {tq : Option Addr} {tc : Nat} {fs : List Fld} {h : Hd} {k : Fo} {q : Option Addr} {c : Nat} {bs : List Nat} (hj : JCh w th tk tq tc fs h k q c bs) (ht : SlF w tq tc tk) (hf : ∀ f ∈ fs, SlF w f.q f.cap f.k) : SlF w q c k := by
  induction hj with
  | nil => exact ht
  | @cons f fs h k q c bs b next hc hb ih =>
    have h0 := hf f (by simp)
    have h1 := ih (fun f hf' => hf f (by simp [hf']))
    refine ⟨Nat.le_refl _, by unfold maxLen; omega, fun _ => ⟨b, 0, rfl, f.q, f.cap, ⟨?_, ?_, ?_, ?_, h0.lc, h0.cm⟩, h0.at_, q, c, ⟨?_, ?_, ?_, ?_, h1.lc, h1.cm⟩, h1.at_, trivial⟩⟩ <;> simp [World.cell?, hb]

/-- What join answers. -/
def JnPost (w : World) (fs : List Fld) (th : Hd) (tk : Fo) (tq : Option Addr) (tc : Nat) (e : Ending) (w' : World) : Prop :=
  ∃ h k q c bs, e = .returned (.agg #[.int .u8 h.op, .string h.name, .int .i64 h.n, .slice q k.len c]) ∧ JCh w' th tk tq tc fs h k q c bs ∧ bs.Nodup ∧ (∀ b ∈ bs, w.heap.size ≤ b ∧ b < w'.heap.size) ∧ Below w.heap.size w w'
end Go.Proofs.Ytmjijmkdeblefaa

/- join. -/
namespace Go.Proofs.Ytmjijmkdeblefaa
open Go.RowKit Go.Shelf LM
set_option linter.unusedVariables false
attribute [local go_sem] Oper.semAt_some

/-- While the fields are gone through from the last on. -/
def JnI (w : World) (th : Hd) (tk : Fo) (tq : Option Addr) (tc : Nat) (pre : List (Nat × Fld)) (W : World) : Prop :=
  ∃ h k q c bs, W.heap[w.heap.size]? = some (.cells #[.int .u8 h.op, .string h.name, .int .i64 h.n, .slice q k.len c] 25 (0, 0)) ∧ W.heap[w.heap.size + 1]? = some (.cells #[.int .u8 0, .string ⟨#[]⟩, .int .i64 0, .slice none 0 0] 25 (0, 0)) ∧
    JCh W th tk tq tc ((pre.map (·.2)).reverse) h k q c bs ∧ (k.len ≤ c ∧ c ≤ maxLen) ∧ bs.Nodup ∧ (∀ b ∈ bs, w.heap.size + 3 ≤ b ∧ b < W.heap.size) ∧ Below w.heap.size w W ∧ w.heap.size + 3 ≤ W.heap.size

theorem cells_other {A : World} {r b : Nat} {o : Obj} {cs : Array Value} {t : TypeId} {z : Nat × Nat} (hr : A.heap[r]? = some o) (ho : o.isCells = false) (hb : A.heap[b]? = some (.cells cs t z)) : b ≠ r := by
  rintro rfl
  rw [hr] at hb
  cases hb
  cases ho
theorem JCh.cells {w : World} {th : Hd} {tk : Fo} {tq : Option Addr} {tc : Nat} {fs : List Fld} {h : Hd} {k : Fo} {q : Option Addr} {c : Nat} {bs : List Nat} (hj : JCh w th tk tq tc fs h k q c bs) : ∀ b ∈ bs, ∃ cs t z, w.heap[b]? = some (.cells cs t z) := by
  induction hj with
  | nil => intro b hb; cases hb
  | cons next hc hb ih =>
    intro b hb'
    rcases List.mem_cons.1 hb' with rfl | h
    · exact ⟨_, _, _, hb⟩
    · exact ih b h
theorem JnI.own {w : World} {th : Hd} {tk : Fo} {tq : Option Addr} {tc : Nat} {B : Nat} (hB : w.heap.size ≤ B) : OwnFrom B (JnI w th tk tq tc) := by
  rintro pre X Y row ⟨h, k, q, c, bs, h1, h2, h3, h4, h5, h6, h7, h8⟩ hg hr
  have ne : ∀ (b : Nat) (cs : Array Value) (t : TypeId) (z : Nat × Nat), X.heap[b]? = some (Obj.cells cs t z) → Y.heap[b]? = X.heap[b]? := fun b cs t z hb => hg.block b (Array.getElem?_eq_some_iff.1 hb).1 (fun e => by
    obtain ⟨_, o, ho, hc⟩ := hr b e.symm
    exact cells_other ho hc hb rfl)
  refine ⟨h, k, q, c, bs, (ne _ _ _ _ h1).trans h1, (ne _ _ _ _ h2).trans h2, h3.kept (fun b hb => by obtain ⟨cs, t, z, e⟩ := h3.cells b hb; exact ne _ _ _ _ e), h4, h5, fun b hb => ⟨(h6 b hb).1, Nat.lt_of_lt_of_le (h6 b hb).2 hg.size⟩, h7.grown hg h7.size (fun r e => by have := (hr r e).1; omega), by have := hg.size; omega⟩

/-- A field more. -/
theorem JnI.step {w : World} {th : Hd} {tk : Fo} {tq : Option Addr} {tc : Nat} {pre : List (Nat × Fld)} {W : World} {h : Hd} {k : Fo} {q : Option Addr} {c : Nat} {bs : List Nat} (x : Nat × Fld)
    (h1 : W.heap[w.heap.size]? = some (.cells #[.int .u8 h.op, .string h.name, .int .i64 h.n, .slice q k.len c] 25 (0, 0))) (h2 : W.heap[w.heap.size + 1]? = some (.cells #[.int .u8 0, .string ⟨#[]⟩, .int .i64 0, .slice none 0 0] 25 (0, 0)))
    (h3 : JCh W th tk tq tc ((pre.map (·.2)).reverse) h k q c bs) (h4 : k.len ≤ c ∧ c ≤ maxLen) (h5 : bs.Nodup) (h6 : ∀ b ∈ bs, w.heap.size + 3 ≤ b ∧ b < W.heap.size) (h7 : Below w.heap.size w W) (h8 : w.heap.size + 3 ≤ W.heap.size)
    {W1 : World} (hW1 : W1 = (World.set4 W w.heap.size (.int .u8 11) (.string x.2.name) (.int .i64 0) (.slice (some ⟨W.heap.size, 0, none⟩) 2 2)).alloc (.cells #[.int .u8 x.2.h.op, .string x.2.h.name, .int .i64 x.2.h.n, .slice x.2.q x.2.k.len x.2.cap, .int .u8 h.op, .string h.name, .int .i64 h.n, .slice q k.len c] 25)) : JnI w th tk tq tc (pre ++ [x]) W1 ∧ W.grownBy W1 (some w.heap.size) := by
  have hg := set4_grown W w.heap.size (.int .u8 11) (.string x.2.name) (.int .i64 0) (.slice (some ⟨W.heap.size, 0, none⟩) 2 2)
  have hA := below_box (World.set4 W w.heap.size (.int .u8 11) (.string x.2.name) (.int .i64 0) (.slice (some ⟨W.heap.size, 0, none⟩) 2 2)) (.cells #[.int .u8 x.2.h.op, .string x.2.h.name, .int .i64 x.2.h.n, .slice x.2.q x.2.k.len x.2.cap, .int .u8 h.op, .string h.name, .int .i64 h.n, .slice q k.len c] 25)
  have hN := World.alloc_heap_new (World.set4 W w.heap.size (.int .u8 11) (.string x.2.name) (.int .i64 0) (.slice (some ⟨W.heap.size, 0, none⟩) 2 2)) (.cells #[.int .u8 x.2.h.op, .string x.2.h.name, .int .i64 x.2.h.n, .slice x.2.q x.2.k.len x.2.cap, .int .u8 h.op, .string h.name, .int .i64 h.n, .slice q k.len c] 25)
  have hz : (World.set4 W w.heap.size (.int .u8 11) (.string x.2.name) (.int .i64 0) (.slice (some ⟨W.heap.size, 0, none⟩) 2 2)).heap.size = W.heap.size := by simp [World.set4]
  rw [← hW1] at hA hN
  rw [hz] at hA hN
  have hs : W1.heap.size = W.heap.size + 1 := by rw [hW1]; simp [World.set4]
  have ho : ∀ b, b < W.heap.size → b ≠ w.heap.size → W1.heap[b]? = W.heap[b]? := fun b hb hne => (hA.block b hb).trans (hg.block b hb (fun e => hne (Option.some.inj e)))
  refine ⟨⟨⟨11, x.2.name, 0⟩, .cons x.2.h x.2.k (.cons h k .nil), some ⟨W.heap.size, 0, none⟩, 2, W.heap.size :: bs, ?_, ?_, ?_, ⟨Nat.le_refl _, by unfold maxLen; omega⟩, ?_, ?_, ?_, by omega⟩, ?_⟩
  · exact (hA.block _ (by omega)).trans (set4_row h1 _ _ _ _)
  · exact (ho _ (by omega) (by omega)).trans h2
  · rw [List.map_append, List.reverse_append]
    refine .cons (h3.kept (fun b hb => ?_)) h4 hN
    have := h6 b hb
    exact ho _ (by omega) (by omega)
  · exact List.nodup_cons.2 ⟨fun hm => by have := (h6 _ hm).2; omega, h5⟩
  · intro b hb
    rw [hs]
    rcases List.mem_cons.1 hb with rfl | h
    · omega
    · have := h6 b h; omega
  · have h7' : Below w.heap.size w (World.set4 W w.heap.size (.int .u8 11) (.string x.2.name) (.int .i64 0) (.slice (some ⟨W.heap.size, 0, none⟩) 2 2)) := h7.grown hg h7.size (fun r e => by have := Option.some.inj e; omega)
    exact h7'.trans (hA.mono (by omega))
  · exact ⟨hA.os.trans hg.os, hA.tape.trans hg.tape, hA.output.trans hg.output, by omega, fun b hb hne => ho b hb (fun e => hne (by rw [e]))⟩

set_option maxRecDepth 100000 in
set_option maxHeartbeats 2000000 in
theorem join_any (fs : List Fld) (q : Option Addr) (cap : Nat) (th : Hd) (tk : Fo) (tq : Option Addr) (tc : Nat) (w : World) (hf : FdSl w q cap fs) (ht : tk.len ≤ tc ∧ tc ≤ maxLen) (hl : fs.length ≤ 1099511627776) :
    Calls Try.prog 110 #[.slice q fs.length cap, .agg #[.int .u8 th.op, .string th.name, .int .i64 th.n, .slice tq tk.len tc]] w (JnPost w fs th tk tq tc) := by
  refine (callsIn_wide (n := 9)).1 ?_
  have HP := Lib.hid Backward_any
  have HF := Lib.hid hf
  have HT := Lib.hid ht
  clear hf ht
  refine callsIn_of_wp_marks Try.func110 rfl trivial ?_ rfl
  simp only [Try.ntmps110, List.size_toArray, List.length_cons, List.length_nil, Nat.reduceAdd, Nat.reduceSub, Array.replicate_succ, Array.replicate_zero, List.push_toArray, List.append_toArray, List.nil_append, List.cons_append]
  gi_wp2_with (refine ⟨trivial, ?_⟩; gi_at_call 126; refine (callsIn_wide.2 (HP.out _ _ _ _)).mono ?_; rintro e w' ⟨rfl, rfl⟩)
  have bS := Boxed.new ((w.alloc (.cells #[.int .u8 th.op, .string th.name, .int .i64 th.n, .slice tq tk.len tc] 25)).alloc (.cells #[.int .u8 0, .string ⟨#[]⟩, .int .i64 0, .slice none 0 0] 25)) 36 (.slice q fs.length cap)
  simp only [World.size_alloc] at bS
  obtain ⟨w5, hw5⟩ : ∃ w5, w5 = ((w.alloc (.cells #[.int .u8 th.op, .string th.name, .int .i64 th.n, .slice tq tk.len tc] 25)).alloc (.cells #[.int .u8 0, .string ⟨#[]⟩, .int .i64 0, .slice none 0 0] 25)).alloc (.cells #[.slice q fs.length cap] 36) := ⟨_, rfl⟩
  have hz5 : w5.heap.size = w.heap.size + 3 := by rw [hw5]; simp
  have hb5 : Below w.heap.size w w5 := by rw [hw5]; exact ((below_box _ _).alloc (by simp) _).alloc (by simp; omega) _
  rw [← hw5] at bS
  have hst : JnI w th tk tq tc [] w5 := by
    have e1 := World.alloc_heap_new w (.cells #[.int .u8 th.op, .string th.name, .int .i64 th.n, .slice tq tk.len tc] 25)
    have e2 := World.alloc_heap_new (w.alloc (.cells #[.int .u8 th.op, .string th.name, .int .i64 th.n, .slice tq tk.len tc] 25)) (.cells #[.int .u8 0, .string ⟨#[]⟩, .int .i64 0, .slice none 0 0] 25)
    rw [World.size_alloc] at e2
    refine ⟨th, tk, tq, tc, [], ?_, ?_, .nil, HT.out, List.nodup_nil, by simp, hb5, by omega⟩
    · rw [hw5]; exact ((below_box _ _).block _ (by simp; omega)).trans (((below_box _ _).block _ (by simp)).trans e1)
    · rw [hw5]; exact ((below_box _ _).block _ (by simp)).trans e2
  have hql : ∀ b o, q = some ⟨b, o, none⟩ → 0 < fs.length → b < w.heap.size := fun b o e h0 => by
    obtain ⟨b', o', e', hlt, _⟩ := HF.out.at_ h0
    rw [e'] at e; cases e; exact hlt
  have HQL := Lib.hid hql
  have HST := Lib.hid hst
  have HZ5 := Lib.hid hz5
  have HB5 := Lib.hid hb5
  have hBs : w.heap.size + 1 + 1 < w5.heap.size := by omega
  rw [← hw5]
  clear hst hw5 hql hb5
  refine wpIn_rangeFunc_ownH rfl (by omega) (gf := 146) (lb := #[.pointer (some ⟨w.heap.size + 1 + 1, 0, none⟩)]) rfl trivial (enters_of Try.func146 (by kernel_rfl) rfl)
    (back_stops Fence.wide (9 - 1) trivial rfl (by omega) (w.heap.size + 1 + 1) q cap fs hl w5 hBs bS.cell (HF.out.below HB5.out)) KpB.t (KpB.b hBs (fun b o e h0 => by have := HQL.out b o e h0; omega)) (Below.refl _ _) (fun _ => rfl)
    (JnI w th tk tq tc) (fun _ _ _ => False) (JnI.own (by omega)) (fun _ _ _ _ _ hx _ _ => hx) HST.out
    (fun x a' W => ∃ Bx, w.heap.size + 3 ≤ Bx ∧ W.heap[Bx]? = some (.cells #[.string x.2.name, .int .u8 x.2.h.op, .string x.2.h.name, .int .i64 x.2.h.n, .slice x.2.q x.2.k.len x.2.cap] 40 (0, 0)) ∧
      a' = { tmps := #[.slice q fs.length cap, .agg #[.int .u8 th.op, .string th.name, .int .i64 th.n, .slice tq tk.len tc], undef, .pointer (some ⟨w.heap.size, 0, none⟩), .pointer (some ⟨w.heap.size + 1, 0, none⟩), undef, .pointer (some ⟨Bx, 0, none⟩), .slice q fs.length cap,
        .func (.func 146) #[] #[.pointer (some ⟨w.heap.size + 1 + 1, 0, none⟩)], .int .i64 (x.1 : Int), .agg #[.string x.2.name, .int .u8 x.2.h.op, .string x.2.h.name, .int .i64 x.2.h.n, .slice x.2.q x.2.k.len x.2.cap], undef, undef, undef, undef, undef, undef, undef, undef], defers := [] }) ?hAx ?assign ?body ?done ?stop
  case hAx =>
    rintro x a' _ X Y row ⟨Bx, h1, h2, h3⟩ hg hr
    exact ⟨Bx, h1, (hg.block _ (Array.getElem?_eq_some_iff.1 h2).1 (fun e => by obtain ⟨_, o, ho, hc⟩ := hr _ e.symm; exact cells_other ho hc h2 rfl)).trans h2, h3⟩
  case assign =>
    rintro l pre x W K hi hK
    have hroom : w.heap.size + 3 ≤ W.heap.size := by obtain ⟨h, k, q, c, bs, _, _, _, _, _, _, _, h8⟩ := hi; exact h8
    have HI := Lib.hid hi
    have HK := Lib.hid hK
    clear hi hK
    simp only [encB]
    gi_wp2
    refine HK.out _ _ ((KeepsOthers.alloc _ _).from _) (KpB.grown (World.grownBy_alloc _ _ none) (by omega) (fun b o e h0 => by have := HQL.out b o e h0; omega) (by simp) (by simp)) ?_ ⟨W.heap.size, hroom, ?_, rfl⟩
    · exact (JnI.own (B := w5.heap.size) (by omega)).alloc _ HI.out
    · exact World.alloc_heap_new W _
  case body =>
    rintro l pre x a' W hl2 _ ⟨h, k, q2, c, bs, h1, h2, h3, h4, h5, h6, h7, h8⟩ ⟨Bx, hBx, hfb, rfl⟩ hlt
    obtain ⟨t0, t1, t2, t3, z0, z1, z2, z3⟩ := row4 h1
    have f0 : W.cell? ⟨Bx, 0, none⟩ = some (.string x.2.name) := by simp [World.cell?, hfb]
    have f1 : W.cell? ⟨Bx, 1, none⟩ = some (.int .u8 x.2.h.op) := by simp [World.cell?, hfb]
    have f2 : W.cell? ⟨Bx, 2, none⟩ = some (.string x.2.h.name) := by simp [World.cell?, hfb]
    have f3 : W.cell? ⟨Bx, 3, none⟩ = some (.int .i64 x.2.h.n) := by simp [World.cell?, hfb]
    have f4 : W.cell? ⟨Bx, 4, none⟩ = some (.slice x.2.q x.2.k.len x.2.cap) := by simp [World.cell?, hfb]
    have hS := JnI.step x h1 h2 h3 h4 h5 h6 h7 h8 rfl
    have hWt : w.heap.size < W.heap.size := by omega
    have HS := Lib.hid hS
    clear hS h1 h2 h3 h4 h5 h6 h7 hfb
    gi_wp2
    have hg := HS.out.2
    refine ⟨?_, KpB.grown hg (by omega) (fun b o e h0 => by have := HQL.out b o e h0; omega) (fun e => by have := Option.some.inj e; omega) (fun b o e h0 e2 => by have := Option.some.inj e2; have := HQL.out b o e h0; omega), HS.out.1⟩
    exact KeepsFrom.of_grownBy hg (fun j e => by cases e; omega)
  case done =>
    rintro K ys W hK rfl ⟨h, k, q2, c, bs, h1, h2, h3, h4, h5, h6, h7, h8⟩ hKd
    rw [bkw_rev fs fs.length (Nat.le_refl _), Nat.sub_self, List.drop_zero] at h3
    obtain ⟨t0, t1, t2, t3, _⟩ := row4 h1
    obtain ⟨y0, y1, y2, y3, z0, z1, z2, z3⟩ := row4 h2
    have H2 := Lib.hid h2
    have H3 := Lib.hid h3
    have H5 := Lib.hid h5
    have H6 := Lib.hid h6
    have H7 := Lib.hid h7
    have hK3 : w.heap.size + 3 ≤ K := by omega
    clear h1 h2 h3 h5 h6 h7
    gi_wp2
    have hg := set4_grown W (w.heap.size + 1) (.int .u8 h.op) (.string h.name) (.int .i64 h.n) (.slice q2 k.len c)
    have hrow := set4_row H2.out (.int .u8 h.op) (.string h.name) (.int .i64 h.n) (.slice q2 k.len c)
    have hKd' := (hg.block K (Array.getElem?_eq_some_iff.1 hKd).1 (by intro e; have := Option.some.inj e; omega)).trans hKd
    refine ⟨by simp, .inl ⟨_, _, rfl, run_takeDeferred hKd', ?_⟩⟩
    have hg2 := grownBy_putObj' (World.set4 W (w.heap.size + 1) (.int .u8 h.op) (.string h.name) (.int .i64 h.n) (.slice q2 k.len c)) K (.deferred none)
    have hrow2 := (hg2.block _ (Array.getElem?_eq_some_iff.1 hrow).1 (by intro e; have := Option.some.inj e; omega)).trans hrow
    refine ⟨_, results_cell_row rfl _ _ _ _ _ _ (.struct _) rfl hrow2 Try.underlying25 rfl (by kernel_rfl), ?_⟩
    have hbne : ∀ b ∈ bs, b ≠ K := fun b hb => by
      rintro rfl
      obtain ⟨cs, t, z, e⟩ := H3.out.cells b hb
      rw [e] at hKd; cases hKd
    refine ⟨h, k, q2, c, bs, rfl, H3.out.kept (fun b hb => ?_), H5.out, fun b hb => ⟨by have := (H6.out b hb).1; omega, ?_⟩, ?_⟩
    · have := H6.out b hb
      exact (hg2.block b (Nat.lt_of_lt_of_le this.2 hg.size) (fun e => hbne b hb (Option.some.inj e))).trans (hg.block b this.2 (fun e => by have := Option.some.inj e; omega))
    · exact Nat.lt_of_lt_of_le (H6.out b hb).2 (Nat.le_trans hg.size hg2.size)
    · exact (H7.out.grown hg H7.out.size (fun r e => by have := Option.some.inj e; omega)).grown hg2 (Nat.le_trans H7.out.size hg.size) (fun r e => by have := Option.some.inj e; omega)
  case stop =>
    rintro K c pre W _ _ hx _
    exact hx.elim
end Go.Proofs.Ytmjijmkdeblefaa

/- Join, the document's Of. -/
namespace Go.Proofs.Ytmjijmkdeblefaa
open Go.RowKit LM
set_option linter.unusedVariables false

/-- A field, plainly. -/
def Fld.key (f : Fld) : ByteArray × Hd × Fo := (f.name, f.h, f.k)
theorem rowT_ok {t : Hd × Fo} (ht : t.1.ok ∧ t.2.ok) : ∀ {l : List (ByteArray × Hd × Fo)}, (∀ x ∈ l, x.1.size ≤ maxLen ∧ x.2.1.ok ∧ x.2.2.ok) → (rowT t l).1.ok ∧ (rowT t l).2.ok
  | [], _ => ht
  | (nm, h, k) :: r, hl => by
    have h0 := hl (nm, h, k) (by simp)
    have h1 := rowT_ok ht (l := r) (fun x hx => hl x (by simp [hx]))
    exact ⟨⟨by show (0 : Int) ≤ 11; omega, by show (11 : Int) ≤ 255; omega, h0.1, by show (-9223372036854775808 : Int) ≤ 0; omega, by show (0 : Int) ≤ _; omega⟩, h0.2.1, h0.2.2, h1.1, h1.2, trivial⟩
theorem rowT_size (t : Hd × Fo) : ∀ (l : List (ByteArray × Hd × Fo)), (rowT t l).2.size = t.2.size + (l.map fun x => x.2.2.size + 2).sum
  | [] => by simp [rowT]
  | (nm, h, k) :: r => by simp only [rowT, Fo.size, rowT_size t r, List.map_cons, List.sum_cons]; omega

theorem Field_at (name : ByteArray) (h0 : Hd) (k0 : Fo) (q0 : Option Addr) (cap0 : Nat) (h1 : Hd) (k1 : Fo) (q1 : Option Addr) (cap1 : Nat) (w : World) :
    Calls Try.prog 50 #[.string name, .agg #[.int .u8 h0.op, .string h0.name, .int .i64 h0.n, .slice q0 k0.len cap0], .agg #[.int .u8 h1.op, .string h1.name, .int .i64 h1.n, .slice q1 k1.len cap1]] w fun e w' =>
      ∃ g, e = .returned (.agg #[.int .u8 11, .string name, .int .i64 0, .slice (some ⟨g, 0, none⟩) 2 2]) ∧ w.heap.size ≤ g ∧ w'.heap[g]? = some (.cells #[.int .u8 h0.op, .string h0.name, .int .i64 h0.n, .slice q0 k0.len cap0, .int .u8 h1.op, .string h1.name, .int .i64 h1.n, .slice q1 k1.len cap1] 25 (0, 0)) ∧ Below w.heap.size w w' := by
  go_enter Try.func50, Try.ntmps50
  go_wp2
  refine bodyPost_ret (v := .agg #[.int .u8 11, .string name, .int .i64 0, .slice (some ⟨w.heap.size + 1 + 1 + 1, 0, none⟩) 2 2]) (by simp [results, Try.results50, go_sem]) rfl ⟨_, rfl, by omega, ?_, ?_⟩
  · have := World.alloc_heap_new (((w.alloc (.cells #[.int .u8 h0.op, .string h0.name, .int .i64 h0.n, .slice q0 k0.len cap0] 25)).alloc (.cells #[.int .u8 h1.op, .string h1.name, .int .i64 h1.n, .slice q1 k1.len cap1] 25)).alloc (.cells #[.int .u8 11, .string name, .int .i64 0, .slice (some ⟨w.heap.size + 1 + 1 + 1, 0, none⟩) 2 2] 25)) (.cells #[.int .u8 h0.op, .string h0.name, .int .i64 h0.n, .slice q0 k0.len cap0, .int .u8 h1.op, .string h1.name, .int .i64 h1.n, .slice q1 k1.len cap1] 25)
    simpa only [World.size_alloc] using this
  · exact ((((Below.refl _ _).alloc (Nat.le_refl _) _).alloc (by simp) _).alloc (by simp; omega) _).alloc (by simp; omega) _

/-- A tree in what lay at first and in blocks from n on: told by what agrees there. -/
def AgF (N n : Nat) (wr : World) (q : Option Addr) (c : Nat) (k : Fo) : Prop := ∀ w'' : World, (∀ b, (b < N ∨ n ≤ b) → b < wr.heap.size → w''.heap[b]? = wr.heap[b]?) → SlF w'' q c k
theorem SlF.agree {w w'' : World} {q : Option Addr} {c : Nat} {k : Fo} (h : SlF w q c k) (he : ∀ b, b < w.heap.size → w''.heap[b]? = w.heap[b]?) : SlF w'' q c k := by
  have key : ∀ {f : Fo} {b o : Nat}, FoAt w f b o → FoAt w'' f b o := by
    intro f
    induction f with
    | nil => intro b o h; exact h
    | cons h k r ihk ihr =>
      intro b o ⟨q, cap, hh, hk, hr⟩
      exact ⟨q, cap, hh.same (he b hh.lt), fun h0 => (hk h0).elim fun b' h1 => h1.elim fun o' h2 => ⟨b', o', h2.1, ihk h2.2⟩, ihr hr⟩
  exact ⟨h.lc, h.cm, fun h0 => (h.at_ h0).elim fun b h1 => h1.elim fun o h2 => ⟨b, o, h2.1, key h2.2⟩⟩
theorem AgF.field {w : World} {n : Nat} {wr w2 : World} {q0 q1 : Option Addr} {c0 c1 g : Nat} {h0 h1 : Hd} {k0 k1 : Fo} (hw : Below w.heap.size w wr) (h : AgF w.heap.size n wr q1 c1 k1) (h2 : Below wr.heap.size wr w2) (s0 : SlF w q0 c0 k0)
    (hg : w2.heap[g]? = some (.cells #[.int .u8 h0.op, .string h0.name, .int .i64 h0.n, .slice q0 k0.len c0, .int .u8 h1.op, .string h1.name, .int .i64 h1.n, .slice q1 k1.len c1] 25 (0, 0))) (hn : n ≤ g) : AgF w.heap.size n w2 (some ⟨g, 0, none⟩) 2 (.cons h0 k0 (.cons h1 k1 .nil)) := fun w'' he => by
  have hs := h2.size
  refine two_fo ((he g (.inr hn) (Array.getElem?_eq_some_iff.1 hg).1).trans hg) (s0.agree (fun b hb => ?_)) (h w'' (fun b hb hlt => (he b hb (by omega)).trans (h2.block b hlt)))
  have := hw.size
  rw [he b (.inl hb) (by omega), h2.block b (by omega), hw.block b hb]
theorem AgF.set {N n : Nat} {wr w' : World} {q : Option Addr} {c : Nat} {k : Fo} (h : AgF N n wr q c k) {r : Nat} (hg : wr.grownBy w' (some r)) (h1 : N ≤ r) (h2 : r < n) : AgF N n w' q c k := fun w'' he =>
  h w'' (fun b hb hlt => (he b hb (Nat.lt_of_lt_of_le hlt hg.size)).trans (hg.block b hlt (fun e => by have := Option.some.inj e; omega)))
theorem AgF.here {N n : Nat} {wr : World} {q : Option Addr} {c : Nat} {k : Fo} (h : AgF N n wr q c k) : SlF wr q c k := h wr (fun _ _ _ => rfl)

set_option maxRecDepth 100000 in
set_option maxHeartbeats 1000000 in
theorem Of_any (fs : List Fld) (q : Option Addr) (cap : Nat) (th : Hd) (tk : Fo) (tq : Option Addr) (tc : Nat) (w : World) (hf : FdSl w q cap fs) (hs : SlF w tq tc tk) (hm : ∀ f ∈ fs, SlF w f.q f.cap f.k) (hl : fs.length ≤ 1099511627776) :
    Calls Try.prog 67 #[.slice q fs.length cap, .agg #[.int .u8 th.op, .string th.name, .int .i64 th.n, .slice tq tk.len tc]] w (TrPost w (rowT (th, tk) (fs.map Fld.key)).1 (rowT (th, tk) (fs.map Fld.key)).2) := by
  have HF := Lib.hid hf
  have HS := Lib.hid hs
  have HM := Lib.hid hm
  have HFL := Lib.hid Field_at
  have hst : ∀ o1 : Obj, (((w.alloc (.cells #[.int .u8 th.op, .string th.name, .int .i64 th.n, .slice tq tk.len tc] 25)).alloc (.cells #[.int .u8 0, .string ⟨#[]⟩, .int .i64 0, .slice none 0 0] 25)).alloc (.cells #[.int .u8 th.op, .string th.name, .int .i64 th.n, .slice tq tk.len tc] 25)).heap[w.heap.size + 1]? = some (.cells #[.int .u8 0, .string ⟨#[]⟩, .int .i64 0, .slice none 0 0] 25 (0, 0)) ∧
      (((w.alloc (.cells #[.int .u8 th.op, .string th.name, .int .i64 th.n, .slice tq tk.len tc] 25)).alloc (.cells #[.int .u8 0, .string ⟨#[]⟩, .int .i64 0, .slice none 0 0] 25)).alloc (.cells #[.int .u8 th.op, .string th.name, .int .i64 th.n, .slice tq tk.len tc] 25)).heap[w.heap.size + 1 + 1]? = some (.cells #[.int .u8 th.op, .string th.name, .int .i64 th.n, .slice tq tk.len tc] 25 (0, 0)) ∧
      Below w.heap.size w (((w.alloc (.cells #[.int .u8 th.op, .string th.name, .int .i64 th.n, .slice tq tk.len tc] 25)).alloc (.cells #[.int .u8 0, .string ⟨#[]⟩, .int .i64 0, .slice none 0 0] 25)).alloc (.cells #[.int .u8 th.op, .string th.name, .int .i64 th.n, .slice tq tk.len tc] 25)) := fun _ => by
    have e2 := World.alloc_heap_new (w.alloc (.cells #[.int .u8 th.op, .string th.name, .int .i64 th.n, .slice tq tk.len tc] 25)) (.cells #[.int .u8 0, .string ⟨#[]⟩, .int .i64 0, .slice none 0 0] 25)
    have e3 := World.alloc_heap_new ((w.alloc (.cells #[.int .u8 th.op, .string th.name, .int .i64 th.n, .slice tq tk.len tc] 25)).alloc (.cells #[.int .u8 0, .string ⟨#[]⟩, .int .i64 0, .slice none 0 0] 25)) (.cells #[.int .u8 th.op, .string th.name, .int .i64 th.n, .slice tq tk.len tc] 25)
    simp only [World.size_alloc] at e2 e3
    exact ⟨((below_box _ _).block _ (by simp)).trans e2, e3, ((below_box _ _).alloc (by simp) _).alloc (by simp; omega) _⟩
  have HST := Lib.hid (hst (.cells #[] 0))
  clear hf hs hm hst
  generalize hLd : fs.length = L at *
  have HL := Lib.hid hLd
  clear hLd
  go_enter Try.func67, Try.ntmps67
  go_wp2
  go_loopw [6] (fun i wr => ∃ (k : Nat) (h : Hd) (kk : Fo) (q1 : Option Addr) (c : Nat), k ≤ L ∧ i = .int .i64 ((k : Int) - 1) ∧ Hid ((h, kk) = rowT (th, tk) ((fs.drop k).map Fld.key) ∧ AgF w.heap.size (w.heap.size + 3) wr q1 c kk) ∧
    wr.heap[w.heap.size + 1 + 1]? = some (.cells #[.int .u8 h.op, .string h.name, .int .i64 h.n, .slice q1 kk.len c] 25 (0, 0)) ∧ wr.heap[w.heap.size + 1]? = some (.cells #[.int .u8 0, .string ⟨#[]⟩, .int .i64 0, .slice none 0 0] 25 (0, 0)) ∧ Below w.heap.size w wr) (fun i _ => (intOf i + 1).toNat)
  case atStart => exact ⟨L, th, tk, tq, tc, Nat.le_refl _, rfl, Lib.hid ⟨by rw [List.drop_of_length_le (by rw [HL.out]; exact Nat.le_refl _)]; rfl, fun w'' he => HS.out.agree (fun b hb => by rw [he b (.inl hb) (by simp; omega), HST.out.2.2.block b hb])⟩, HST.out.2.1, HST.out.1, HST.out.2.2⟩
  case round =>
    obtain ⟨k, h, kk, q1, c, hkL, rfl, HR, hb, hr, hbl⟩ := hrel
    obtain ⟨t0, t1, t2, t3, u0, u1, u2, u3⟩ := row4 hb
    obtain ⟨y0, y1, y2, y3, z0, z1, z2, z3⟩ := row4 hr
    have HB := Lib.hid hb
    have HRS := Lib.hid hr
    have HBL := Lib.hid hbl
    have hwr : w.heap.size + 1 + 1 < wr.heap.size := (Array.getElem?_eq_some_iff.1 hb).1
    clear hb hr hbl
    by_cases hk0 : k = 0
    · have HE := Lib.hid hk0
      have ei : (k : Int) - 1 = -1 := by omega
      rw [ei]
      clear hk0 ei
      go_wp2
      have hR := HR.out
      rw [HE.out, List.drop_zero] at hR
      have hg := set4_grown wr (w.heap.size + 1) (.int .u8 h.op) (.string h.name) (.int .i64 h.n) (.slice q1 kk.len c)
      refine bodyPost_ret (v := .agg #[.int .u8 h.op, .string h.name, .int .i64 h.n, .slice q1 kk.len c]) (by simp [results, Try.results67, go_sem, y0, y1, y2, y3]) rfl ?_
      rw [← hR.1]
      exact ⟨_, _, rfl, (hR.2.set hg (by omega) (by omega)).here, HBL.out.grown hg HBL.out.size (fun r e => by have := Option.some.inj e; omega)⟩
    · obtain ⟨j, rfl⟩ : ∃ j, k = j + 1 := ⟨k - 1, by omega⟩
      have hjf : j < fs.length := by rw [HL.out]; omega
      obtain ⟨b, o, rfl, hbw, hcs⟩ := HF.out.at_ (by omega)
      obtain ⟨c0, c1, c2, c3, c4⟩ := hcs j hjf
      have kc : ∀ x, wr.cell? ⟨b, x, none⟩ = w.cell? ⟨b, x, none⟩ := fun x => HBL.out.cell (p := ⟨b, x, none⟩) hbw
      rw [← kc] at c0 c1 c2 c3 c4
      have hfm := HM.out fs[j] (List.getElem_mem _)
      have hdrop : (fs.drop j).map Fld.key = fs[j].key :: (fs.drop (j + 1)).map Fld.key := by rw [List.drop_eq_getElem_cons hjf]; rfl
      have ej : ((j + 1 : Nat) : Int) - 1 = (j : Int) := by omega
      have ej2 : (j : Int) + 1 - 1 = (j : Int) := by omega
      have hjL : (j : Int) < (L : Int) := by omega
      have hj0 : (0 : Int) ≤ (j : Int) := by omega
      have hd : decide ((j : Int) ≥ 0) = true := decide_eq_true hj0
      have HD := Lib.hid hdrop
      have HFM := Lib.hid hfm
      clear kc hcs hdrop hfm hk0
      generalize fs[j] = f at *
      rw [ej]
      have HC := Lib.hid fun w' => HFL.out f.name f.h f.k f.q f.cap h kk q1 c w'
      go_wp2
      go_still_tail 11, (by kernel_rfl)
      change wpList _ _ _ _ _ wr.drew
      go_wp2_with (go_at_call 50; refine (HC.out _).mono ?_; rintro e w2 ⟨g, rfl, hg1, hg2, hb2⟩; have hrow2 := (hb2.block (w.heap.size + 1 + 1) hwr).trans HB.out; have hres2 := (hb2.block (w.heap.size + 1) (by show _ < wr.heap.size; omega)).trans HRS.out; obtain ⟨s0, s1, s2, s3, v0, v1, v2, v3⟩ := row4 hrow2; have HROW := Lib.hid hrow2; have HRES := Lib.hid hres2; have HG1 := Lib.hid hg1; have HG2 := Lib.hid hg2; have HB2 := Lib.hid hb2; clear hg1 hg2 hb2 hrow2 hres2)
      go_roundw
      case measure => simp [intOf]
      case rel =>
        have hg := set4_grown w2 (w.heap.size + 1 + 1) (.int .u8 11) (.string f.name) (.int .i64 0) (.slice (some ⟨g, 0, none⟩) 2 2)
        have hb2' : Below wr.heap.size wr w2 := ((Below.refl wr.heap.size wr).drew).trans HB2.out
        have hgw : wr.heap.size ≤ g := HG1.out
        have hbw2 : Below w.heap.size w w2 := HBL.out.trans (hb2'.mono HBL.out.size)
        have hag := AgF.field HBL.out HR.out.2 hb2' HFM.out HG2.out (by omega)
        refine ⟨j, ⟨11, f.name, 0⟩, .cons f.h f.k (.cons h kk .nil), some ⟨g, 0, none⟩, 2, by omega, rfl, Lib.hid ⟨?_, hag.set hg (by omega) (by omega)⟩, set4_row HROW.out _ _ _ _, (hg.block _ (Array.getElem?_eq_some_iff.1 HRES.out).1 (fun e => by have := Option.some.inj e; omega)).trans HRES.out, hbw2.grown hg hbw2.size (fun r e => by have := Option.some.inj e; omega)⟩
        rw [HD.out, show rowT (th, tk) (f.key :: (fs.drop (j + 1)).map Fld.key) = (⟨11, f.name, 0⟩, .cons f.h f.k (.cons (rowT (th, tk) ((fs.drop (j + 1)).map Fld.key)).1 (rowT (th, tk) ((fs.drop (j + 1)).map Fld.key)).2 .nil)) from rfl, ← HR.out.1]
end Go.Proofs.Ytmjijmkdeblefaa

/- Flat of what is no row; SameFields. -/
namespace Go.Proofs.Ytmjijmkdeblefaa
open Go.RowKit LM
set_option linter.unusedVariables false

set_option maxRecDepth 100000 in
theorem Flat_no (h : Hd) (k : Fo) (q : Option Addr) (cap : Nat) (w : World) (hh : h.ok) (hf : SlF w q cap k) (hok : k.ok) (hsz : 1 + k.size ≤ 1099511627776) (hr : rightB h k 2 = false) :
    Calls Try.prog 30 #[.agg #[.int .u8 h.op, .string h.name, .int .i64 h.n, .slice q k.len cap]] w fun e w' => e = .returned (.tuple #[.slice none 0 0, .agg #[.int .u8 0, .string ⟨#[]⟩, .int .i64 0, .slice none 0 0]]) ∧ Below w.heap.size w w' := by
  have HR := Lib.hid fun w' hb => Row_any h k q cap w' hh (hf.below (w := w) hb) hok hsz
  rw [hr] at HR
  clear hf hr
  go_enter Try.func30, Try.ntmps30
  go_wp2_with (go_at_call 71; refine (HR.out _ (((Below.refl _ _).alloc (Nat.le_refl _) _).alloc (by simp) _)).mono ?_; rintro e w1 ⟨rfl, hb1⟩; obtain ⟨hw1, hw2, hw3⟩ := two_boxes hb1; obtain ⟨y0, y1, y2, y3, z0, z1, z2, z3⟩ := row4 hw3; have HW1 := Lib.hid hw1; have HW3 := Lib.hid hw3; clear hb1 hw1 hw2 hw3)
  have hg := set4_grown w1 (w.heap.size + 1) (.int .u8 0) (.string ⟨#[]⟩) (.int .i64 0) (.slice none 0 0)
  exact bodyPost_ret (v := .tuple #[.slice none 0 0, .agg #[.int .u8 0, .string ⟨#[]⟩, .int .i64 0, .slice none 0 0]]) (by simp [results, Try.results30, go_sem, y0, y1, y2, y3]) rfl ⟨rfl, HW1.out.grown hg HW1.out.size (fun r e => by have := Option.some.inj e; omega)⟩

theorem key_len {fs gs : List Fld} (h : fs.map (fun f => (f.name, f.h, f.k)) = gs.map (fun f => (f.name, f.h, f.k))) : fs.length = gs.length := by
  have := congrArg List.length h; simpa using this
theorem key_get {fs gs : List Fld} (h : fs.map (fun f => (f.name, f.h, f.k)) = gs.map (fun f => (f.name, f.h, f.k))) {j : Nat} (h1 : j < fs.length) (h2 : j < gs.length) : fs[j].name = gs[j].name ∧ fs[j].h = gs[j].h ∧ fs[j].k = gs[j].k := by
  have := congrArg (fun l => l[j]?) h
  simp [List.getElem?_eq_getElem h1, List.getElem?_eq_getElem h2] at this
  exact this

end Go.Proofs.Ytmjijmkdeblefaa

/- The document's Fields. -/
namespace Go.Proofs.Ytmjijmkdeblefaa
open Go.RowKit LM
set_option linter.unusedVariables false

/-- One more of those that are gone through: the new one is put ahead of the first that is greater. -/
def stp (f : Fld) (s : List Fld × Bool) (y : Fld) : List Fld × Bool := if !s.2 && ltF f y then (s.1 ++ [f] ++ [y], true) else (s.1 ++ [y], s.2)
def stps (f : Fld) (os : List Fld) : List Fld × Bool := os.foldl (stp f) ([], false)
/-- Behind all. -/
def finS (f : Fld) (s : List Fld × Bool) : List Fld := if s.2 then s.1 else s.1 ++ [f]
theorem stps_snoc (f : Fld) (os : List Fld) (y : Fld) : stps f (os ++ [y]) = stp f (stps f os) y := by simp [stps, List.foldl_append]
theorem fin_true (f : Fld) : ∀ (os A : List Fld), os.foldl (stp f) (A, true) = (A ++ os, true)
  | [], A => by simp
  | y :: os, A => by rw [List.foldl_cons, stp]; simp only [Bool.not_true, Bool.false_and, Bool.false_eq_true, if_false]; rw [fin_true f os]; simp
theorem fin_from (f : Fld) : ∀ (os A : List Fld), finS f (os.foldl (stp f) (A, false)) = A ++ ins ltF f os
  | [], A => by simp [finS, ins]
  | y :: os, A => by
    rw [List.foldl_cons, stp, ins]
    cases h : ltF f y with
    | true => simp only [Bool.not_false, Bool.true_and, if_true]; rw [fin_true]; simp [finS]
    | false => simp only [Bool.not_false, Bool.true_and, Bool.false_eq_true, if_false]; rw [fin_from f os]; simp
theorem fin_all (f : Fld) (os : List Fld) : finS f (stps f os) = ins ltF f os := by
  have := fin_from f os []
  simpa [stps] using this
theorem stps_len (f : Fld) (os : List Fld) : (stps f os).1.length ≤ os.length + 1 := by
  have : ∀ (os A : List Fld) (b : Bool), (os.foldl (stp f) (A, b)).1.length ≤ A.length + os.length + (if b then 0 else 1) := by
    intro os
    induction os with
    | nil => intro A b; simp
    | cons y os ih =>
      intro A b
      rw [List.foldl_cons, stp]
      split
      · rename_i h
        have := ih (A ++ [f] ++ [y]) true
        simp at h
        have hb : b = false := h.1
        subst hb
        simp at this ⊢; omega
      · have := ih (A ++ [y]) b
        simp at this ⊢; omega
  have := this os [] false
  simpa [stps] using this

theorem bl_lt : ∀ a b : List UInt8, Op.bytesLess a b = decide (a < b)
  | _, [] => by unfold Op.bytesLess; simp
  | [], _ :: _ => by unfold Op.bytesLess; simp
  | a :: x, b :: y => by
    rw [Op.bytesLess, bl_lt x y]
    rw [Bool.eq_iff_iff]
    simp [List.cons_lt_cons_iff]
theorem bl_eq (f y : Fld) : Op.bytesLess f.name.toList y.name.toList = ltF f y := by
  rw [bl_lt, Bool.eq_iff_iff, ltF_iff, ByteArray.toList_eq, ByteArray.toList_eq, decide_eq_true_iff]
/-- What Fields keeps while it goes on. -/
structure RfI (w : World) (fs pre rest : List Fld) (h : Hd) (k : Fo) (q : Option Addr) (cap : Nat) (th : Hd) (tk : Fo) (tq : Option Addr) (tc : Nat) (v : Value) (wr : World) : Prop where
  eq : fs = pre ++ rest
  own : wr.ownsRow (w.heap.size + 2) 40 5 v pre.length (fldCells (srt ltF pre))
  ch : RowCh w h k q cap rest th tk tq tc
  box : wr.heap[w.heap.size]? = some (.cells #[.int .u8 h.op, .string h.name, .int .i64 h.n, .slice q k.len cap] 25 (0, 0))
  res : wr.heap[w.heap.size + 1]? = some (.cells #[.int .u8 0, .string ⟨#[]⟩, .int .i64 0, .slice none 0 0] 25 (0, 0))
  below : Below w.heap.size w wr
  room : w.heap.size + 2 ≤ wr.heap.size

theorem bdx {n : Nat} (h : n ≤ 1099511627780) : n ≤ maxLen ∧ n * 72 ≤ 140737488355328 := ⟨by unfold maxLen; omega, by omega⟩
theorem enc_new (wr : World) (nq : Nat) (y : Fld) : ∀ j u, y.enc[j]? = some u → ((wr.drewN nq).alloc (.cells y.enc.toArray 40)).cell? ((⟨wr.heap.size, 0, none⟩ : Addr).add j) = some u := by
  have h := cells_new (wr.drewN nq) y.enc 40
  have e : (wr.drewN nq).heap.size = wr.heap.size := by simp
  rw [e] at h
  exact h
theorem rf_own {wr : World} {B : Nat} {v : Value} {n : Nat} {xs : List Value} (h : wr.ownsRow B 40 5 v n xs) (nq : Nat) (o : Obj) : ((wr.drewN nq).alloc o).ownsRow B 40 5 v n xs :=
  World.ownsRow.alloc (own_grown h (below_drewN (Below.refl _ _) nq)) o
theorem rf_below {wi wr w1 : World} {v : Value} {n : Nat} {xs : List Value} (h : wr.ownsRow wi.heap.size 40 5 v n xs) (hb : Below wi.heap.size wi wr) (nq : Nat) (o : Obj) (hg : ((wr.drewN nq).alloc o).grownBy w1 v.ownBlock) : Below wi.heap.size wi w1 := by
  have h1 : Below wi.heap.size wi ((wr.drewN nq).alloc o) := (below_drewN hb nq).alloc (by have := hb.size; simp; omega) o
  exact h1.grown hg (by have := hb.size; simp; omega) (fun r e => (h.lt r e).1)
theorem rf_size {wi wr : World} (hb : wi.heap.size ≤ wr.heap.size) (nq : Nat) (o : Obj) : wi.heap.size ≤ ((wr.drewN nq).alloc o).heap.size := by simp; omega
theorem rf_below2 {wi w1 w2 : World} {v : Value} {n : Nat} {xs : List Value} (h : w1.ownsRow wi.heap.size 40 5 v n xs) (hb : Below wi.heap.size wi w1) (o : Obj) (hg : (w1.alloc o).grownBy w2 v.ownBlock) : Below wi.heap.size wi w2 :=
  (hb.alloc hb.size o).grown hg (by have := hb.size; simp; omega) (fun r e => (h.lt r e).1)
theorem rf_size2 {wi w1 : World} (hb : wi.heap.size ≤ w1.heap.size) (o : Obj) : wi.heap.size ≤ (w1.alloc o).heap.size := by simp; omega
theorem own_val {w : World} {base : Nat} {e : TypeId} {size : Nat} {v : Value} {n : Nat} {xs : List Value} (h : w.ownsRow base e size v n xs) : ∃ a cap, v = .slice a n cap := by
  rcases h.2 with ⟨rfl, h0⟩ | ⟨g, cap, cur, rfl, _⟩
  · exact ⟨none, 0, by rw [h0]⟩
  · exact ⟨_, cap, rfl⟩

set_option maxRecDepth 100000 in
set_option maxHeartbeats 400000 in
theorem Fields_any (h : Hd) (k : Fo) (q : Option Addr) (cap : Nat) (w : World) (fs : List Fld) (th : Hd) (tk : Fo) (tq : Option Addr) (tc : Nat) (hc : RowCh w h k q cap fs th tk tq tc) (hl : fs.length ≤ 1099511627776) :
    Calls Try.prog 66 #[.agg #[.int .u8 h.op, .string h.name, .int .i64 h.n, .slice q k.len cap]] w (FlatPost w fs th tk tq tc) := by
  have HC := Lib.hid hc
  obtain ⟨i0, hi, hz0, hz1, hz2⟩ := info_parts info37
  clear hc
  have hs : RfI w fs [] fs h k q cap th tk tq tc (.slice none 0 0) ((w.alloc (.cells #[.int .u8 h.op, .string h.name, .int .i64 h.n, .slice q k.len cap] 25)).alloc (.cells #[.int .u8 0, .string ⟨#[]⟩, .int .i64 0, .slice none 0 0] 25)) := by
    have e1 := World.alloc_heap_new w (.cells #[.int .u8 h.op, .string h.name, .int .i64 h.n, .slice q k.len cap] 25)
    have e2 := World.alloc_heap_new (w.alloc (.cells #[.int .u8 h.op, .string h.name, .int .i64 h.n, .slice q k.len cap] 25)) (.cells #[.int .u8 0, .string ⟨#[]⟩, .int .i64 0, .slice none 0 0] 25)
    rw [World.size_alloc] at e2
    exact ⟨rfl, World.ownsRow_nil _ _ _ _, HC.out, ((below_box _ _).block _ (by simp)).trans e1, e2, ((Below.refl _ _).alloc (Nat.le_refl _) _).alloc (by simp) _, by simp⟩
  have HS := Lib.hid hs
  clear hs
  go_enter Try.func66, Try.ntmps66
  go_wp2
  go_loopg [4] fs.length (fun g v wr => ∃ pre rest h1 k1 q1 cap1, g = rest.length ∧ RfI w fs pre rest h1 k1 q1 cap1 th tk tq tc v wr)
  case atStart => exact ⟨[], fs, h, k, q, cap, rfl, HS.out⟩
  case round =>
    obtain ⟨pre, rest, h1, k1, q1, cap1, hg, hI⟩ := hrel
    have hch := hI.ch
    cases hch with
    | stop hop hsl =>
      have hop' : (th.op == 11) = false := by simpa using hop
      obtain ⟨r0, r1, r2, r3, _⟩ := row4 hI.box
      have hpre : pre = fs := by have := hI.eq; simpa using this.symm
      subst hpre
      obtain ⟨y0, y1, y2, y3, z0, z1, z2, z3⟩ := row4 hI.res
      have HI := Lib.hid hI
      clear hI hop
      go_wp2_with fail
      go_region
      all_goals
        go_wp2
        have hg := set4_grown wr (w.heap.size + 1) (.int .u8 th.op) (.string th.name) (.int .i64 th.n) (.slice tq tk.len tc)
        have hbk : ∀ r, u4.ownBlock = some r → w.heap.size + 2 ≤ r := fun r e => (HI.out.own.lt r e).1
        refine bodyPost_ret (v := .tuple #[u4, .agg #[.int .u8 th.op, .string th.name, .int .i64 th.n, .slice tq tk.len tc]]) (by simp [results, Try.results66, go_sem, y0, y1, y2, y3]) rfl ⟨u4, rfl, ?_, ?_⟩
        · rw [insF_srt]
          refine own_base (World.ownsRow.drew (HI.out.own.kept hg ?_)) (by omega)
          rcases hv : u4.ownBlock with _ | r
          · exact .inl rfl
          · right; intro e; have := hbk r hv; have := Option.some.inj e; omega
        · have hb3 := HI.out.below.grown hg HI.out.below.size (fun r e => by have := Option.some.inj e; omega)
          exact hb3.trans ((Below.refl _ _).drew)
    | @step _ h0 h2 _ k0 k2 r _ q0 q2 _ b o _ cap0 cap2 _ fs2 hop hcap a0 a1 s0 s1 next =>
      have hop' : (h1.op == 11) = true := by simp [hop]
      have hL : 2 ≤ (Fo.cons h0 k0 (.cons h2 k2 r)).len := by simp [Fo.len]
      have hbox := hI.box
      generalize hLe : (Fo.cons h0 k0 (.cons h2 k2 r)).len = L at *
      obtain ⟨r0, r1, r2, r3, z0, z1, z2, z3⟩ := row4 hbox
      have hL0 : 0 < L := by omega
      have hL1 : 1 < L := by omega
      have hcm := hcap.2
      unfold maxLen at hcm
      have hlc := hcap.1
      have d0 := (a0.same (hI.below.block _ a0.lt)).c0
      have d1 := (a0.same (hI.below.block _ a0.lt)).c1
      have d2 := (a0.same (hI.below.block _ a0.lt)).c2
      have d3 := (a0.same (hI.below.block _ a0.lt)).c3
      have hpl : pre.length + 1 ≤ 1099511627776 := by have := congrArg List.length hI.eq; simp at this; omega
      obtain ⟨ao, co, hu4, hfd⟩ := own_fdSl (fs := srt ltF pre) (by rw [length_srt]; exact hI.own)
      rw [length_srt] at hu4
      subst hu4
      have hwz : w.heap.size < wr.heap.size := by have := hI.room; omega
      have hbz : b < wr.heap.size := Nat.lt_of_lt_of_le a0.lt hI.below.size
      have HLE := Lib.hid hLe
      have HI := Lib.hid hI
      have HN := Lib.hid next
      have HA0 := Lib.hid a0
      have HA1 := Lib.hid a1
      rw [hop] at r0
      clear hI hop hop' next a0 a1 s0 s1 hbox
      go_wp2
      go_big_region
      go_wp2_with fail
      obtain ⟨wi, hwi⟩ : ∃ wi, wi = (wr.alloc (.cells #[.string h1.name, .int .u8 h0.op, .string h0.name, .int .i64 h0.n, .slice q0 k0.len cap0] 40)).drew := ⟨_, rfl⟩
      rw [← hwi]
      obtain ⟨f, hfe⟩ : ∃ f : Fld, f = ⟨h1.name, h0, q0, k0, cap0⟩ := ⟨_, rfl⟩
      have hbi : Below wr.heap.size wr wi := by rw [hwi]; exact (below_box _ _).drew
      have hfb : wi.heap[wr.heap.size]? = some (.cells #[.string f.name, .int .u8 f.h.op, .string f.h.name, .int .i64 f.h.n, .slice f.q f.k.len f.cap] 40 (0, 0)) := by rw [hwi, hfe]; exact World.alloc_heap_new wr _
      have hfi : wr.heap.size < wi.heap.size := (Array.getElem?_eq_some_iff.1 hfb).1
      have HBI := Lib.hid hbi
      have HFB := Lib.hid hfb
      have HFE := Lib.hid hfe
      have HFD := Lib.hid (hfd.below hbi)
      have hos : (srt ltF pre).length = pre.length := length_srt _
      have HOS := Lib.hid hos
      obtain ⟨os, hose⟩ : ∃ os, os = srt ltF pre := ⟨_, rfl⟩
      rw [← hose] at HFD HOS
      have HOE := Lib.hid hose
      obtain ⟨M, hM⟩ : ∃ M, pre.length = M := ⟨_, rfl⟩
      rw [hM] at HOS hpl ⊢
      have HM := Lib.hid hM
      clear hwi hfe hbi hfb hfd hos hose hM r0 r1 r2 r3 z0 z1 z2 z3 d0 d1 d2 d3
      obtain ⟨wo, rfl⟩ : ∃ wo : World, wo = wr := ⟨_, rfl⟩
      go_loopw [6, 7, 8] (fun v6 v7 v8 wx => ∃ (i : Nat) (st : List Fld × Bool), v8 = .int .i64 i ∧ i ≤ M ∧ v7 = .bool st.2 ∧ Hid (stps f (os.take i) = st) ∧ wx.ownsRow wi.heap.size 40 5 v6 st.1.length (fldCells st.1) ∧ Below wi.heap.size wi wx) (fun _ _ v8 _ => M - (intOf v8).toNat)
      case atStart => exact ⟨0, ([], false), rfl, Nat.zero_le _, rfl, Lib.hid rfl, World.ownsRow_nil _ _ _ _, Below.refl _ _⟩
      case round =>
        obtain ⟨i, ⟨acc, inn⟩, rfl, hiM, rfl, HST, hown, hbx⟩ := hrel
        simp only at hown
        have hal : acc.length ≤ i + 1 := by
          have := stps_len f (os.take i)
          rw [HST.out] at this; simp at this; omega
        obtain ⟨an, cn, rfl⟩ := own_val hown
        have HOW := Lib.hid hown
        have HBX := Lib.hid hbx
        clear hown hbx
        by_cases hlt : i < M
        · have hio : i < os.length := by rw [HOS.out]; exact hlt
          obtain ⟨bo, oo, rfl, hbo, hco⟩ := HFD.out.at_ (by omega)
          have hci := hco i hio
          have kc : ∀ x, wr.cell? ⟨bo, x, none⟩ = wi.cell? ⟨bo, x, none⟩ := fun x => HBX.out.cell (p := ⟨bo, x, none⟩) hbo
          obtain ⟨c0, c1, c2, c3, c4⟩ := hci
          rw [← kc] at c0 c1 c2 c3 c4
          have HCI := Lib.hid (hco i hio)
          have hstep : stps f (os.take (i + 1)) = stp f (acc, inn) os[i] := by rw [List.take_succ_eq_append_getElem hio, stps_snoc, HST.out]
          have HSTEP := Lib.hid hstep
          clear hco hstep kc
          generalize os[i] = y at *
          have hfx := (HBX.out.block _ hfi).trans HFB.out
          have f0 : wr.cell? ⟨wo.heap.size, 0, none⟩ = some (.string f.name) := by simp [World.cell?, hfx]
          have f1 : wr.cell? ⟨wo.heap.size, 1, none⟩ = some (.int .u8 f.h.op) := by simp [World.cell?, hfx]
          have f2 : wr.cell? ⟨wo.heap.size, 2, none⟩ = some (.string f.h.name) := by simp [World.cell?, hfx]
          have f3 : wr.cell? ⟨wo.heap.size, 3, none⟩ = some (.int .i64 f.h.n) := by simp [World.cell?, hfx]
          have f4 : wr.cell? ⟨wo.heap.size, 4, none⟩ = some (.slice f.q f.k.len f.cap) := by simp [World.cell?, hfx]
          have iz : (i : Int) < (M : Int) := by omega
          have iz0 : (0 : Int) ≤ (i : Int) := by omega
          have hwx : wi.heap.size ≤ wr.heap.size := HBX.out.size
          have hfw : wo.heap.size < wr.heap.size := by omega
          have HBD1 := Lib.hid (bdx (n := acc.length + 1) (by omega))
          have HBD2 := Lib.hid (bdx (n := acc.length + 1 + 1) (by omega))
          clear hfx
          cases inn with
          | true =>
            have hs2 : stp f (acc, true) y = (acc ++ [y], true) := by simp [stp]
            have HS2 := Lib.hid hs2
            clear hs2
            go_wp2
            go_quiet (fail)
            go_wp2_with (at_builtin; go_loud (refine wpList_append_own _ rfl (.tmp 41) (.tmp 46) 36 rfl wi.heap.size 40 i0 _ 5 72 Try.underlying36 hi hz0 hz1 hz2 rfl (by decide) _ _ _ rfl (rf_own HOW.out nq _) ⟨wr.heap.size, 0, none⟩ 1 1 (Fld.enc y) rfl rfl (enc_new wr nq y) (fld_one _) HBD1.out.1 HBD1.out.2 (rf_size hwx nq _) ?_); intro v' w1 hown2 hgrow _; obtain ⟨a5, cp5, rfl⟩ := own_val hown2; have HB1 := Lib.hid (rf_below HOW.out HBX.out nq _ hgrow); have HOW2 := Lib.hid hown2; clear hown2 hgrow)
            go_roundw
            case rel => exact ⟨i + 1, (acc ++ [y], true), by go_num, by omega, rfl, Lib.hid (by rw [HSTEP.out, HS2.out]), by have := HOW2.out; rw [← fldCells_snoc] at this; simpa using this, HB1.out⟩
            case measure => simp [intOf]; omega
          | false =>
            have hbl := bl_eq f y
            cases hlf : ltF f y with
            | true =>
              have hbl2 : Op.bytesLess f.name.toList y.name.toList = true := by rw [hbl, hlf]
              have hs2 : stp f (acc, false) y = (acc ++ [f] ++ [y], true) := by simp [stp, hlf]
              have HS2 := Lib.hid hs2
              clear hs2 hbl hlf
              go_wp2
              go_quiet (fail)
              go_wp2_with (first | (at_builtin; refine wpList_append_own _ rfl (.tmp 37) (.tmp 39) 36 rfl wi.heap.size 40 i0 _ 5 72 Try.underlying36 hi hz0 hz1 hz2 rfl (by decide) _ _ _ rfl (rf_own HOW.out nq _) ⟨wr.heap.size, 0, none⟩ 1 1 (Fld.enc f) rfl rfl (enc_new wr nq f) (fld_one _) HBD1.out.1 HBD1.out.2 (rf_size hwx nq _) ?_; intro v' w1 hown2 hgrow _; obtain ⟨a5, cp5, rfl⟩ := own_val hown2; have hb1 := rf_below HOW.out HBX.out nq _ hgrow; have kc1 : ∀ x, w1.cell? ⟨bo, x, none⟩ = wi.cell? ⟨bo, x, none⟩ := fun x => hb1.cell (p := ⟨bo, x, none⟩) hbo; obtain ⟨e0, e1, e2, e3, e4⟩ := HCI.out; rw [← kc1] at e0 e1 e2 e3 e4; have HB1 := Lib.hid hb1; have HOW2 := Lib.hid hown2; have hwx1 := hb1.size; clear hown2 hgrow hb1 kc1 c0 c1 c2 c3 c4) | (at_builtin; refine wpList_append_own _ rfl (.tmp 41) (.tmp 46) 36 rfl wi.heap.size 40 i0 _ 5 72 Try.underlying36 hi hz0 hz1 hz2 rfl (by decide) _ _ _ rfl (World.ownsRow.alloc HOW2.out _) ⟨w1.heap.size, 0, none⟩ 1 1 (Fld.enc y) rfl rfl (cells_new w1 (Fld.enc y) 40) (fld_one _) HBD2.out.1 HBD2.out.2 (rf_size2 hwx1 _) ?_; intro v'' w2 hown3 hgrow _; obtain ⟨a6, cp6, rfl⟩ := own_val hown3; have HB2 := Lib.hid (rf_below2 HOW2.out HB1.out _ hgrow); have HOW3 := Lib.hid hown3; clear hown3 hgrow))
              go_roundw
              case rel => exact ⟨i + 1, (acc ++ [f] ++ [y], true), by go_num, by omega, rfl, Lib.hid (by rw [HSTEP.out, HS2.out]), by have := HOW3.out; rw [← fldCells_snoc, ← fldCells_snoc] at this; simpa using this, HB2.out⟩
              case measure => simp [intOf]; omega
            | false =>
              have hbl2 : Op.bytesLess f.name.toList y.name.toList = false := by rw [hbl, hlf]
              have hs2 : stp f (acc, false) y = (acc ++ [y], false) := by simp [stp, hlf]
              have HS2 := Lib.hid hs2
              clear hs2 hbl hlf
              go_wp2
              go_quiet (fail)
              go_wp2_with (at_builtin; refine wpList_append_own _ rfl (.tmp 41) (.tmp 46) 36 rfl wi.heap.size 40 i0 _ 5 72 Try.underlying36 hi hz0 hz1 hz2 rfl (by decide) _ _ _ rfl (rf_own HOW.out nq _) ⟨wr.heap.size, 0, none⟩ 1 1 (Fld.enc y) rfl rfl (enc_new wr nq y) (fld_one _) HBD1.out.1 HBD1.out.2 (rf_size hwx nq _) ?_; intro v' w1 hown2 hgrow _; obtain ⟨a5, cp5, rfl⟩ := own_val hown2; have HB1 := Lib.hid (rf_below HOW.out HBX.out nq _ hgrow); have HOW2 := Lib.hid hown2; clear hown2 hgrow)
              go_roundw
              case rel => exact ⟨i + 1, (acc ++ [y], false), by go_num, by omega, rfl, Lib.hid (by rw [HSTEP.out, HS2.out]), by have := HOW2.out; rw [← fldCells_snoc] at this; simpa using this, HB1.out⟩
              case measure => simp [intOf]; omega
        · have hie : i = M := by omega
          have hfin := fin_all f os
          have hst2 := HST.out
          rw [hie, ← HOS.out, List.take_length] at hst2
          rw [hst2] at hfin
          have HFIN := Lib.hid hfin
          have hfx := (HBX.out.block _ hfi).trans HFB.out
          have f0 : wr.cell? ⟨wo.heap.size, 0, none⟩ = some (.string f.name) := by simp [World.cell?, hfx]
          have f1 : wr.cell? ⟨wo.heap.size, 1, none⟩ = some (.int .u8 f.h.op) := by simp [World.cell?, hfx]
          have f2 : wr.cell? ⟨wo.heap.size, 2, none⟩ = some (.string f.h.name) := by simp [World.cell?, hfx]
          have f3 : wr.cell? ⟨wo.heap.size, 3, none⟩ = some (.int .i64 f.h.n) := by simp [World.cell?, hfx]
          have f4 : wr.cell? ⟨wo.heap.size, 4, none⟩ = some (.slice f.q f.k.len f.cap) := by simp [World.cell?, hfx]
          have hwx : wi.heap.size ≤ wr.heap.size := HBX.out.size
          have HBD1 := Lib.hid (bdx (n := acc.length + 1) (by omega))
          -- the row's own boxes
          have hwow : Below wo.heap.size wo wr := HBI.out.trans (HBX.out.mono (by omega))
          have hbox := (hwow.block _ hwz).trans HI.out.box
          have hres := (hwow.block _ (by have := HI.out.room; omega)).trans HI.out.res
          have hrest : ∀ (v' : Value) (w1 : World), w1.ownsRow wi.heap.size 40 5 v' (ins ltF f os).length (fldCells (ins ltF f os)) → Below wi.heap.size wi w1 →
              (∀ i, w1.cell? ⟨b, o + i, none⟩ = wo.cell? ⟨b, o + i, none⟩) ∧ w1.heap[w.heap.size]? = some (.cells #[.int .u8 h1.op, .string h1.name, .int .i64 h1.n, .slice (some ⟨b, o, none⟩) L cap1] 25 (0, 0)) ∧
              RfI w fs (pre ++ [f]) fs2 h2 k2 q2 cap2 th tk tq tc v' (World.set4 w1 w.heap.size (.int .u8 h2.op) (.string h2.name) (.int .i64 h2.n) (.slice q2 k2.len cap2)) := fun v' w1 hw1 hb1 => by
            have hroom := HI.out.room
            have hwo1 : Below wo.heap.size wo w1 := HBI.out.trans (hb1.mono (by omega))
            have hg4 := set4_grown w1 w.heap.size (.int .u8 h2.op) (.string h2.name) (.int .i64 h2.n) (.slice q2 k2.len cap2)
            have hbox1 := (hwo1.block _ hwz).trans HI.out.box
            rw [HLE.out] at hbox1
            have hsz1 := hwo1.size
            refine ⟨fun i => hwo1.cell (p := ⟨b, o + i, none⟩) hbz, hbox1, ⟨?_, ?_, HN.out, set4_row hbox1 _ _ _ _, ?_, ?_, ?_⟩⟩
            · rw [HI.out.eq, HFE.out]; simp
            · have hl := (length_ins (lt := ltF) (x := f) (l := os))
              rw [srt_snoc, ← HOE.out, List.length_append, HM.out]
              rw [hl, HOS.out] at hw1
              refine own_base (hw1.kept hg4 ?_) (by omega)
              rcases hv : v'.ownBlock with _ | r
              · exact .inl rfl
              · right; intro e; have := (hw1.lt r hv).1; have := Option.some.inj e; omega
            · exact (hg4.block _ (by omega) (fun e => by have := Option.some.inj e; omega)).trans ((hwo1.block _ (by omega)).trans HI.out.res)
            · have hb2 := HI.out.below.trans (hwo1.mono HI.out.below.size)
              exact hb2.grown hg4 hb2.size (fun r e => by have := Option.some.inj e; omega)
            · have := hg4.size; omega
          have HREST := Lib.hid hrest
          clear hst2 hfin hfx hwow hbox hres hrest hie
          have hA : ∀ (w1 : World), (∀ i, w1.cell? ⟨b, o + i, none⟩ = wo.cell? ⟨b, o + i, none⟩) → w1.cell? ⟨b, o + 4, none⟩ = some (.int .u8 h2.op) ∧ w1.cell? ⟨b, o + 4 + 1, none⟩ = some (.string h2.name) ∧ w1.cell? ⟨b, o + 4 + 2, none⟩ = some (.int .i64 h2.n) ∧ w1.cell? ⟨b, o + 4 + 3, none⟩ = some (.slice q2 k2.len cap2) := fun w1 hk => by
            have ha := HA1.out.same (HI.out.below.block _ HA1.out.lt)
            exact ⟨(hk 4).trans ha.c0, (hk 5).trans ha.c1, (hk 6).trans ha.c2, (hk 7).trans ha.c3⟩
          have HAC := Lib.hid hA
          clear hA
          cases inn with
          | true =>
            have he : acc = ins ltF f os := by have := HFIN.out; simpa [finS] using this
            obtain ⟨kc, hbx1, hrf⟩ := HREST.out _ wr (by rw [← he]; exact HOW.out) HBX.out
            obtain ⟨x0, x1, x2, x3, t0, t1, t2, t3⟩ := row4 hbx1
            obtain ⟨b0, b1, b2, b3⟩ := HAC.out wr kc
            have HRF := Lib.hid hrf
            clear kc hbx1 hrf he
            go_wp2
            go_roundg fs2.length
            case measure => simp [hg]
            case rel => exact ⟨_, fs2, h2, k2, q2, cap2, rfl, HRF.out⟩
          | false =>
            have he : acc ++ [f] = ins ltF f os := by have := HFIN.out; simpa [finS] using this
            have HE := Lib.hid he
            clear he
            go_wp2_with (at_builtin; refine wpList_append_own _ rfl (.tmp 50) (.tmp 52) 36 rfl wi.heap.size 40 i0 _ 5 72 Try.underlying36 hi hz0 hz1 hz2 rfl (by decide) _ _ _ rfl (World.ownsRow.alloc HOW.out _) ⟨wr.heap.size, 0, none⟩ 1 1 (Fld.enc f) rfl rfl (cells_new wr (Fld.enc f) 40) (fld_one _) HBD1.out.1 HBD1.out.2 (rf_size2 hwx _) ?_; intro v' w1 hown2 hgrow _; obtain ⟨a5, cp5, rfl⟩ := own_val hown2; have hb1 := rf_below2 HOW.out HBX.out _ hgrow; obtain ⟨kc, hbx1, hrf⟩ := HREST.out _ w1 (by rw [← HE.out, fldCells_snoc, List.length_append]; exact hown2) hb1; obtain ⟨x0, x1, x2, x3, t0, t1, t2, t3⟩ := row4 hbx1; obtain ⟨b0, b1, b2, b3⟩ := HAC.out w1 kc; have HRF := Lib.hid hrf; clear kc hbx1 hrf hb1 hown2 hgrow)
            go_roundg fs2.length
            case measure => simp [hg]
            case rel => exact ⟨_, fs2, h2, k2, q2, cap2, rfl, HRF.out⟩
end Go.Proofs.Ytmjijmkdeblefaa

/- KindsFlat: the law's walk. -/
namespace Go.Proofs.Ytmjijmkdeblefaa
open Go.RowKit LM
set_option linter.unusedVariables false

theorem below_flat {w W W' : World} (h : Below w.heap.size w W) (k : Below W.heap.size W W') : Below w.heap.size w W' := h.trans (k.mono h.size)
theorem Alike_same (h : Hd) (k : Fo) (q q' : Option Addr) (cap cap' : Nat) (w : World) (hh : h.ok) (hk : k.ok) (s : SlF w q cap k) (s' : SlF w q' cap' k) :
    Calls Try.prog 16 #[.agg #[.int .u8 h.op, .string h.name, .int .i64 h.n, .slice q k.len cap], .agg #[.int .u8 h.op, .string h.name, .int .i64 h.n, .slice q' k.len cap']] w fun e w' => e = .returned (.bool true) ∧ Below w.heap.size w w' := by
  have := Alike_any (k.size + 1) h h k k q q' cap cap' w (by omega) hh hh hk hk s s'
  rw [alk_self] at this
  exact this
/-- The row's box. -/
structure Box1 (w : World) (h : Hd) (k : Fo) (q : Option Addr) (cap : Nat) (W : World) : Prop where
  b0 : W.heap[w.heap.size]? = some (.cells #[.int .u8 h.op, .string h.name, .int .i64 h.n, .slice q k.len cap] 25 (0, 0))
  below : Below w.heap.size w W
theorem Box1.go {w : World} {h : Hd} {k : Fo} {q : Option Addr} {cap : Nat} {W W' : World} (hp : Box1 w h k q cap W) (hb : Below W.heap.size W W') : Box1 w h k q cap W' :=
  ⟨(hb.block _ (Array.getElem?_eq_some_iff.1 hp.b0).1).trans hp.b0, below_flat hp.below hb⟩

/-- The fields of an argument. -/
structure FlsIs (w : World) (q : Option Addr) (cap : Nat) (fs : List Fld) : Prop where
  sl : FdSl w q cap fs
  m : ∀ f ∈ fs, f.name.size ≤ maxLen ∧ f.h.ok ∧ f.k.ok ∧ SlF w f.q f.cap f.k ∧ 1 + f.k.size ≤ 1099511627776
  n : fs.length ≤ 1099511627776

section
variable {α β : Type} {lt : α → α → Bool} {lt' : β → β → Bool} {p : α → β}
theorem map_ins (h : ∀ x y, lt' (p x) (p y) = lt x y) (x : α) : ∀ l : List α, (ins lt x l).map p = ins lt' (p x) (l.map p)
  | [] => rfl
  | y :: l => by
    rw [ins, List.map_cons, ins, h]
    split
    · rfl
    · rw [List.map_cons, map_ins h x l]
theorem map_srt (h : ∀ x y, lt' (p x) (p y) = lt x y) (l : List α) : (srt lt l).map p = srt lt' (l.map p) := by
  have : ∀ (n : Nat) (l : List α), l.length = n → (srt lt l).map p = srt lt' (l.map p) := by
    intro n
    induction n with
    | zero => intro l hl; obtain rfl := List.length_eq_zero_iff.1 hl; rfl
    | succ n ih =>
      intro l hl
      obtain ⟨c, x, rfl⟩ : ∃ c x, l = c ++ [x] := ⟨l.dropLast, l.getLast (by intro e; rw [e] at hl; simp at hl), (List.dropLast_concat_getLast _).symm⟩
      rw [srt_snoc, List.map_append, List.map_cons, List.map_nil, srt_snoc, map_ins h, ih c (by simpa using hl)]
  exact this _ l rfl
theorem mem_srt {z : α} : ∀ {l : List α}, z ∈ srt lt l → z ∈ l := by
  have : ∀ (n : Nat) (l : List α), l.length = n → z ∈ srt lt l → z ∈ l := by
    intro n
    induction n with
    | zero => intro l hl h; obtain rfl := List.length_eq_zero_iff.1 hl; cases h
    | succ n ih =>
      intro l hl h
      obtain ⟨c, x, rfl⟩ : ∃ c x, l = c ++ [x] := ⟨l.dropLast, l.getLast (by intro e; rw [e] at hl; simp at hl), (List.dropLast_concat_getLast _).symm⟩
      rw [srt_snoc] at h
      rcases mem_ins.1 h with rfl | h
      · simp
      · have := ih c (by simpa using hl) h; simp [this]
  exact fun {l} => this _ l rfl
end
/-- Two lists of fields with the same keys are sorted to lists with the same keys. -/
theorem srt_keys {fs gs : List Fld} (h : fs.map (fun f => (f.name, f.h, f.k)) = gs.map (fun f => (f.name, f.h, f.k))) : (insF fs).map (fun f => (f.name, f.h, f.k)) = (insF gs).map (fun f => (f.name, f.h, f.k)) := by
  rw [insF_srt, insF_srt]
  have k : ∀ x y : Fld, (fun a b : ByteArray × Hd × Fo => decide (Lib.compareBytes a.1.data.toList b.1.data.toList < 0)) (x.name, x.h, x.k) (y.name, y.h, y.k) = ltF x y := fun x y => rfl
  rw [map_srt (lt' := fun a b : ByteArray × Hd × Fo => decide (Lib.compareBytes a.1.data.toList b.1.data.toList < 0)) (p := fun f : Fld => (f.name, f.h, f.k)) k, map_srt (lt' := fun a b : ByteArray × Hd × Fo => decide (Lib.compareBytes a.1.data.toList b.1.data.toList < 0)) (p := fun f : Fld => (f.name, f.h, f.k)) k, h]
theorem length_insF (fs : List Fld) : (insF fs).length = fs.length := by rw [insF_srt, length_srt]
theorem rowF_ok : ∀ {k : Fo} {h : Hd}, h.ok → k.ok → (∀ x ∈ (rowF h k).1, x.2.1.ok ∧ x.2.2.ok) ∧ (rowF h k).2.1.ok ∧ (rowF h k).2.2.ok
  | .nil, h, hh, hk => ⟨(by intro x hx; cases hx), hh, hk⟩
  | .cons h0 k0 .nil, h, hh, hk => ⟨(by intro x hx; cases hx), hh, hk⟩
  | .cons h0 k0 (.cons h1 k1 r), h, hh, hk => by
    unfold rowF
    split
    · have := rowF_ok (k := k1) (h := h1) hk.2.2.1 hk.2.2.2.1
      exact ⟨fun x hx => by
        rcases List.mem_cons.1 hx with rfl | h2
        · exact ⟨hk.1, hk.2.1⟩
        · exact this.1 x h2, this.2⟩
    · exact ⟨(by intro x hx; cases hx), hh, hk⟩

end Go.Proofs.Ytmjijmkdeblefaa

/- A slice of fields among the arguments, opened. -/
namespace Go.Proofs.Ytmjijmkdeblefaa
open Go.ChangeShapes Go.WideShapes Go.ChangeAt Go.RowKit LM
set_option linter.unusedVariables false

theorem five {cs : List Value} (h : cs.length = 5) : ∃ v0 v1 v2 v3 v4, cs = [v0, v1, v2, v3, v4] := by
  match cs, h with
  | [v0, v1, v2, v3, v4], _ => exact ⟨v0, v1, v2, v3, v4, rfl⟩
theorem le_sum : ∀ {l : List Nat} {x : Nat}, x ∈ l → x ≤ l.sum
  | y :: l, x, h => by
    rcases List.mem_cons.1 h with rfl | h
    · simp
    · have := le_sum h; simp; omega
section
variable {H : Type} {enc : TypeId × Value → H} {w : World} {base : Nat} {spare : Nat → Bool} {held : Bool}

/-- What the reading of a field tells. -/
def FdOpen (w : World) (cs : List Value) (d : DataW H) : Prop :=
  ∃ f : Fld, cs = f.enc ∧ f.name.size ≤ maxLen ∧ f.h.ok ∧ f.k.ok ∧ SlF w f.q f.cap f.k ∧ f.k.size + 2 ≤ Rows.uptoBulk d
theorem fd_open {fuel : Nat} {cs : List Value} {x : DataW H × List MemPlace} (h : DataW.trod enc Try.prog w base spare held fuel 40 cs = some x) : FdOpen w cs x.1 := by
  have cT : Try.prog.cellsOf 25 = 4 := by kernel_rfl
  have cF : Try.prog.cellsOf 40 = 5 := by kernel_rfl
  have cS : Try.prog.cellsOf 9 = 1 := by kernel_rfl
  obtain ⟨xs, n, rfl, rfl, hl, hx, hf⟩ := DataW.trod_struct Try.underlying40 h
  rw [cF] at hl
  obtain ⟨v0, v1, v2, v3, v4, rfl⟩ := five hl
  have g0 : DataW.trod enc Try.prog w base spare held n 9 ((List.drop 0 [v0, v1, v2, v3, v4]).take (Try.prog.cellsOf 9)) = xs[0]? := hf 0 _ rfl
  have g1 : DataW.trod enc Try.prog w base spare held n 25 ((List.drop 1 [v0, v1, v2, v3, v4]).take (Try.prog.cellsOf 25)) = xs[1]? := hf 1 _ rfl
  rw [cS] at g0
  rw [cT] at g1
  have hs : xs.length = 2 := hx
  rw [List.getElem?_eq_getElem (by omega)] at g0 g1
  obtain ⟨a0, e0, _, w0⟩ := DataW.trod_string Try.underlying9 g0
  have e0' : v0 = .string a0 := by simpa using e0
  subst e0'
  obtain ⟨hd0, k, q, cap, hcs, hh, hk, hsl, hb⟩ := ty_open n _ _ g1
  have hcs' : v1 = .int .u8 hd0.op ∧ v2 = .string hd0.name ∧ v3 = .int .i64 hd0.n ∧ v4 = .slice q k.len cap := by simpa using hcs
  obtain ⟨rfl, rfl, rfl, rfl⟩ := hcs'
  have hm : xs[1].1 ∈ xs.map (·.1) := List.mem_map.2 ⟨xs[1], List.getElem_mem _, rfl⟩
  have hbm := bulk_mem hm
  have hbulk : Rows.uptoBulk (DataW.agg (xs.map (·.1))) = Rows.uptoBulkAll (xs.map (·.1)) + 1 := by simp only [Rows.uptoBulk]
  exact ⟨⟨a0, hd0, q, k, cap⟩, rfl, w0, hh, hk, hsl, by rw [hbulk]; simp only; omega⟩

theorem fds_open : ∀ (elems : List (DataW H)) (b o : Nat),
    (∀ i (hi : i < elems.length), ∃ cs, FdOpen w cs elems[i] ∧ ∀ j, j < 5 → w.cell? ⟨b, o + i * 5 + j, none⟩ = cs[j]?) →
    ∃ fs : List Fld, fs.length = elems.length ∧ (∀ i, (h : i < fs.length) → ∀ j, j < 5 → w.cell? ⟨b, o + i * 5 + j, none⟩ = fs[i].enc[j]?) ∧ (∀ f ∈ fs, f.name.size ≤ maxLen ∧ f.h.ok ∧ f.k.ok ∧ SlF w f.q f.cap f.k) ∧
      (fs.map fun f => f.k.size + 2).sum ≤ Rows.uptoBulkAll elems := by
  intro elems
  induction elems with
  | nil => intro b o _; exact ⟨[], rfl, (fun i h => by cases h), by simp, by simp⟩
  | cons d r ih =>
    intro b o hx
    obtain ⟨cs, ⟨f, rfl, hn, hh, hk, hs, hb⟩, hc⟩ := hx 0 (by simp)
    obtain ⟨fs, h1, h2, h3, h4⟩ := ih b (o + 5) (fun i hi => by
      obtain ⟨cs, t, c⟩ := hx (i + 1) (by simpa using hi)
      refine ⟨cs, by simpa using t, fun j hj => ?_⟩
      have := c j hj
      rw [show o + (i + 1) * 5 + j = o + 5 + i * 5 + j by omega] at this
      exact this)
    refine ⟨f :: fs, by simp [h1], fun i hi j hj => ?_, fun g hg => ?_, ?_⟩
    · cases i with
      | zero => simpa using hc j hj
      | succ i =>
        have := h2 i (by simpa using hi) j hj
        rw [show o + (i + 1) * 5 + j = o + 5 + i * 5 + j by omega]
        simpa using this
    · rcases List.mem_cons.1 hg with rfl | h
      · exact ⟨hn, hh, hk, hs⟩
      · exact h3 g h
    · simp only [List.getElem_cons_zero] at hb
      simp only [List.map_cons, List.sum_cons, Rows.uptoBulkAll]
      omega

theorem fls_open {fuel : Nat} {a : Option Addr} {len cap : Nat} {x : DataW H × List MemPlace} (h : DataW.trod enc Try.prog w base spare held fuel 36 [.slice a len cap] = some x) (hb : Rows.uptoBulk x.1 ≤ 1048576) :
    ∃ fs : List Fld, fs.length = len ∧ FlsIs w a cap fs ∧ (fs.map fun f => f.k.size + 2).sum ≤ Rows.uptoBulk x.1 := by
  have cF : Try.prog.cellsOf 40 = 5 := by kernel_rfl
  rcases DataW.trod_slice Try.underlying36 h with ⟨hc, hd⟩ | ⟨a', len', cap', elems, rest, n', rfl, hc, hd, _, hlc, hcm, hel, hx3, _⟩
  · have e3 : a = none ∧ len = 0 ∧ cap = 0 := by simpa using hc
    obtain ⟨rfl, rfl, rfl⟩ := e3
    exact ⟨[], rfl, ⟨⟨Nat.le_refl _, by unfold maxLen; omega, fun h0 => by simp at h0⟩, by simp, by simp⟩, by simp⟩
  · have e3 : a = some a' ∧ len = len' ∧ cap = cap' := by simpa using hc
    obtain ⟨rfl, rfl, rfl⟩ := e3
    rw [hd] at hb ⊢
    simp only [Rows.uptoBulk] at hb ⊢
    rw [cF] at hx3
    have hk : ∀ i (hi : i < elems.length), ∃ cs, FdOpen w cs elems[i].1 ∧ ∀ j, j < 5 → w.cell? ((a'.add (i * 5)).add j) = cs[j]? := by
      intro i hi
      have := hx3 i (by omega)
      rw [List.getElem?_eq_getElem hi] at this
      obtain ⟨cs', hc1, hc2⟩ := Option.bind_eq_some_iff.1 this
      exact ⟨cs', fd_open hc2, (World.cells?_some hc1).2.2⟩
    by_cases h0 : len = 0
    · subst h0
      exact ⟨[], rfl, ⟨⟨Nat.zero_le _, hcm, fun h0 => by simp at h0⟩, by simp, by simp⟩, by simp⟩
    · obtain ⟨b, off, rfl⟩ : ∃ b off, a' = ⟨b, off, none⟩ := by
        obtain ⟨cs', ⟨f, rfl, _⟩, hc'⟩ := hk 0 (by omega)
        have := hc' 0 (by omega)
        simp [Addr.add, Fld.enc] at this
        exact addr_plain this
      obtain ⟨fs, f1, f2, f3, f4⟩ := fds_open (elems.map (·.1)) b off (fun i hi => by
        rw [List.length_map] at hi
        obtain ⟨cs', t, c⟩ := hk i hi
        refine ⟨cs', by simpa using t, fun j hj => ?_⟩
        have := c j hj
        rw [Addr.add_lit, Addr.add_lit] at this
        exact this)
      rw [List.length_map, hel] at f1
      have hsum : ∀ f ∈ fs, f.k.size + 2 ≤ (fs.map fun f => f.k.size + 2).sum := fun f hf => le_sum (List.mem_map.2 ⟨f, hf, rfl⟩)
      refine ⟨fs, f1, ⟨⟨by omega, hcm, fun _ => ⟨b, off, rfl, ?_, fun i hi => ⟨f2 i hi 0 (by omega), f2 i hi 1 (by omega), f2 i hi 2 (by omega), f2 i hi 3 (by omega), f2 i hi 4 (by omega)⟩⟩⟩, fun f hf => ?_, ?_⟩, by omega⟩
      · have := f2 0 (by omega) 0 (by omega)
        exact World.block_lt_of_cell? w _ (this.trans rfl)
      · have := hsum f hf
        obtain ⟨x1, x2, x3, x4⟩ := f3 f hf
        exact ⟨x1, x2, x3, x4, by omega⟩
      · have : fs.length ≤ (fs.map fun f => f.k.size + 2).sum := by
          clear f1 f2 f3 f4 hsum
          induction fs with
          | nil => simp
          | cons f r ih => simp only [List.length_cons, List.map_cons, List.sum_cons]; omega
        omega
end

end Go.Proofs.Ytmjijmkdeblefaa
