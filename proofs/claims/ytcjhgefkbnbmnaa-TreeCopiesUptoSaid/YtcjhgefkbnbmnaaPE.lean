/- The document's Right, Row; many. -/
import Derived.Test.YtcjhgefkbnbmnaaPKdTW
import Derived.Test.YtcjhgefkbnbmnaaPD
import Derived.Deep.RegionWith
import Derived.Deep.RegionHeld3
import Derived.WalkKit
import Derived.ProofKit
import Derived.OpenShut
import Derived.JoinedCond
import Derived.Test.YtcjhgefkbnbmnaaRows
import Derived.RangeFuncNested
import Derived.RangeFuncBound
import Derived.RangeFuncCalls
import Derived.RangeFuncLeaves
import Derived.Shelf.Abstract
import Derived.OwnWalkIn
import Derived.TacticsInMore
import Derived.LoopNIn
import Derived.LoopIn
import Derived.StillTailTactics
import Derived.WalkLawsBesides
import Derived.BigRegion
import Derived.Test.YtcjhgefkbnbmnaaPKdI
import Derived.Deep.QuietTactic
import Derived.BigQuiet
namespace Go.Proofs.Ytcjhgefkbnbmnaa
open Go.RowKit LM
set_option linter.unusedVariables false

theorem below_go2 {w W w' : World} (h : Below w.heap.size w W) (hb : Below W.heap.size W w') : Below w.heap.size w w' := h.trans (hb.mono h.size)

set_option maxRecDepth 100000 in
theorem many_any (h : Hd) (k : Fo) (q : Option Addr) (cap : Nat) (w : World) (hsz : 1 + k.size ≤ 1099511627776) (hsl : SlF w q cap k) :
    Calls Try.prog 10 #[.agg #[.int .u8 h.op, .string h.name, .int .i64 h.n, .slice q k.len cap]] w fun e w' => e = .returned (.bool (decide (400 < 1 + k.size))) ∧ Below w.heap.size w w' := by
  have HP := Lib.hid (Parts_any (k.size + 1) h k q cap (w.alloc (.cells #[.int .u8 h.op, .string h.name, .int .i64 h.n, .slice q k.len cap] 25)) (by omega) hsz (hsl.below (below_box _ _)))
  clear hsl
  generalize hN : 1 + k.size = N at *
  have HNN := Lib.hid hN
  clear hN
  have HD : Hid (∀ b, b = decide (400 < N) → b = decide (400 < N)) := Lib.hid fun _ h => h
  go_enter Try.func10, Try.ntmps10
  go_wp2_with fail
  refine HP.out.mono ?_
  rintro e w1 ⟨v1, ps, rfl, own1, hps, hb1⟩
  have hN2 : 1 + k.size = N := HNN.out
  have hN0 : 0 < N := by omega
  rw [hN2] at own1
  obtain ⟨g, cp, cur, rfl, hg, hb1g, hcp, hcm, hcl⟩ := own_some own1 hN0
  have HB1 := Lib.hid (below_then (below_box _ _) hb1)
  clear hb1 hcl own1 hb1g hg hps hN2
  go_wp2
  go_ret
  refine ⟨ret_bool ?_, HB1.out⟩
  rw [Bool.eq_iff_iff]; simp; omega

theorem shape_t (h : Hd) (k : Fo) (q : Option Addr) (cap : Nat) (w : World) (hh : h.ok) (hk : k.ok) (hsl : SlF w q cap k) :
    Calls Try.prog 59 #[.agg #[.int .u8 h.op, .string h.name, .int .i64 h.n, .slice q k.len cap], .int .u8 116] w fun e w' => e = .returned (.bool (shape1 h k 1)) ∧ Below w.heap.size w w' :=
  shape_any (k.size + 1) h k 1 116 q cap w (by omega) hh hk (.inl rfl) rfl hsl
set_option maxRecDepth 100000 in
theorem refRight_any (h : Hd) (k : Fo) (q : Option Addr) (cap : Nat) (w : World) (hh : h.ok) (hk : k.ok) (hsz : 1 + k.size ≤ 1099511627776) (hsl : SlF w q cap k) :
    Calls Try.prog 14 #[.agg #[.int .u8 h.op, .string h.name, .int .i64 h.n, .slice q k.len cap]] w fun e w' => e = .returned (.bool (rightB h k 1)) ∧ Below w.heap.size w w' := by
  have HS := Lib.hid fun w' hb => shape_t h k q cap w' hh hk (hsl.below (w := w) hb)
  have HO := Lib.hid fun w' hb => once_any h k q cap w' hsz (hsl.below (w := w) hb)
  have HR : Hid (rightB h k 1 = (shape1 h k 1 && onceB ((h, k) :: k.flat))) := Lib.hid (by unfold rightB shape1; simp [Fo.flat])
  clear hh hk hsz hsl
  generalize rightB h k 1 = r at *
  generalize onceB ((h, k) :: k.flat) = r2 at *
  generalize k.len = L at *
  cases hs : shape1 h k 1
  · rw [hs] at HS HR
    clear hs
    go_enter Try.func14, Try.ntmps14
    go_wp2_with (first
      | (go_at_call 59; refine (HS.out _ (below_box _ _)).mono ?_; rintro e w1 ⟨rfl, hb1⟩; obtain ⟨hbc, hbf⟩ := bcell hb1; have HB1 := Lib.hid (below_then (below_box _ _) hb1); clear hb1)
      | (go_at_call 60; refine (HO.out _ HB1.out).mono ?_; rintro e w2 ⟨rfl, hb2⟩; have HB2 := Lib.hid (below_go2 HB1.out hb2); clear hb2))
    go_ret
    exact ⟨ret_bool (by rw [HR.out]; rfl), HB1.out⟩
  · rw [hs] at HS HR
    clear hs
    go_enter Try.func14, Try.ntmps14
    go_wp2_with (first
      | (go_at_call 59; refine (HS.out _ (below_box _ _)).mono ?_; rintro e w1 ⟨rfl, hb1⟩; obtain ⟨hbc, hbf⟩ := bcell hb1; have HB1 := Lib.hid (below_then (below_box _ _) hb1); clear hb1)
      | (go_at_call 60; refine (HO.out _ HB1.out).mono ?_; rintro e w2 ⟨rfl, hb2⟩; have HB2 := Lib.hid (below_go2 HB1.out hb2); clear hb2))
    go_ret
    exact ⟨ret_bool (by rw [HR.out]; rfl), HB2.out⟩

end Go.Proofs.Ytcjhgefkbnbmnaa

namespace Go.Proofs.Ytcjhgefkbnbmnaa
open Go.RowKit LM
set_option linter.unusedVariables false

/-- A tree that lies in memory, no greater than Go bears. -/
structure TyIs (w : World) (h : Hd) (k : Fo) (q : Option Addr) (cap : Nat) : Prop where
  hh : h.ok
  hk : k.ok
  sl : SlF w q cap k
  sz : 1 + k.size ≤ 1099511627776

end Go.Proofs.Ytcjhgefkbnbmnaa

namespace Go.Proofs.Ytcjhgefkbnbmnaa
open Go.ChangeShapes Go.WideShapes Go.ChangeAt Go.RowKit LM
set_option linter.unusedVariables false

theorem four {cs : List Value} (h : cs.length = 4) : ∃ v0 v1 v2 v3, cs = [v0, v1, v2, v3] := by
  match cs, h with
  | [v0, v1, v2, v3], _ => exact ⟨v0, v1, v2, v3, rfl⟩

section
variable {H : Type} {enc : TypeId × Value → H} {w : World} {base : Nat} {spare : Nat → Bool} {held : Bool}

theorem bulk_mem {d : DataW H} {l : List (DataW H)} (h : d ∈ l) : Rows.uptoBulk d ≤ Rows.uptoBulkAll l := by
  induction l with
  | nil => cases h
  | cons x r ih =>
    simp only [Rows.uptoBulkAll]
    rcases List.mem_cons.1 h with rfl | e
    · omega
    · have := ih e; omega

theorem addr_plain {a : Addr} {v : Value} (h : w.cell? a = some v) : ∃ b off, a = ⟨b, off, none⟩ := by
  have hs : a.spot = none := World.cell?_spot h
  obtain ⟨b, off, spot⟩ := a
  subst hs
  exact ⟨b, off, rfl⟩

/-- What the reading of a type tells. -/
def TyOpen (w : World) (cs : List Value) (d : DataW H) : Prop :=
  ∃ (h : Hd) (k : Fo) (q : Option Addr) (cap : Nat), cs = [.int .u8 h.op, .string h.name, .int .i64 h.n, .slice q k.len cap] ∧ h.ok ∧ k.ok ∧ SlF w q cap k ∧ 1 + k.size ≤ Rows.uptoBulk d

theorem kids_open : ∀ (elems : List (DataW H)) (b o : Nat),
    (∀ i (hi : i < elems.length), ∃ cs, TyOpen w cs elems[i] ∧ ∀ j, j < 4 → w.cell? ⟨b, o + i * 4 + j, none⟩ = cs[j]?) → ∃ f : Fo, f.len = elems.length ∧ f.ok ∧ FoAt w f b o ∧ f.size ≤ Rows.uptoBulkAll elems := by
  intro elems
  induction elems with
  | nil => intro b o _; exact ⟨.nil, rfl, trivial, trivial, Nat.le_refl _⟩
  | cons d r ih =>
    intro b o hx
    obtain ⟨cs, ⟨h, k, q, cap, rfl, hh, hk, hs, hb⟩, hc⟩ := hx 0 (by simp)
    obtain ⟨f, h1, h2, h3, h4⟩ := ih b (o + 4) (fun i hi => by
      obtain ⟨cs, t, c⟩ := hx (i + 1) (by simpa using hi)
      refine ⟨cs, by simpa using t, fun j hj => ?_⟩
      have := c j hj
      rw [show o + (i + 1) * 4 + j = o + 4 + i * 4 + j by omega] at this
      exact this)
    refine ⟨.cons h k f, by simp [Fo.len, h1], ⟨hh, hk, h2⟩, ⟨q, cap, ⟨?_, ?_, ?_, ?_, hs.lc, hs.cm⟩, hs.at_, h3⟩, ?_⟩
    · simpa using hc 0 (by omega)
    · simpa using hc 1 (by omega)
    · simpa using hc 2 (by omega)
    · simpa using hc 3 (by omega)
    · simp only [List.getElem_cons_zero] at hb
      simp only [Fo.size, Rows.uptoBulkAll]; omega

theorem ty_open : ∀ (fuel : Nat) (cs : List Value) (x : DataW H × List MemPlace), DataW.trod enc Try.prog w base spare held fuel 25 cs = some x → TyOpen w cs x.1 := by
  intro fuel
  induction fuel using Nat.strongRecOn with
  | ind fuel ih =>
    intro cs x h
    have cT : Try.prog.cellsOf 25 = 4 := by kernel_rfl
    have c8 : Try.prog.cellsOf 22 = 1 := by kernel_rfl
    have c64 : Try.prog.cellsOf 3 = 1 := by kernel_rfl
    have cS : Try.prog.cellsOf 9 = 1 := by kernel_rfl
    have cK : Try.prog.cellsOf 23 = 1 := by kernel_rfl
    obtain ⟨xs, n, rfl, rfl, hl, hx, hf⟩ := DataW.trod_struct Try.underlying25 h
    rw [cT] at hl
    obtain ⟨v0, v1, v2, v3, rfl⟩ := four hl
    have g0 : DataW.trod enc Try.prog w base spare held n 22 ((List.drop 0 [v0, v1, v2, v3]).take (Try.prog.cellsOf 22)) = xs[0]? := hf 0 _ rfl
    have g1 : DataW.trod enc Try.prog w base spare held n 9 ((List.drop 1 [v0, v1, v2, v3]).take (Try.prog.cellsOf 9)) = xs[1]? := hf 1 _ rfl
    have g2 : DataW.trod enc Try.prog w base spare held n 3 ((List.drop 2 [v0, v1, v2, v3]).take (Try.prog.cellsOf 3)) = xs[2]? := hf 2 _ rfl
    have g3 : DataW.trod enc Try.prog w base spare held n 23 ((List.drop 3 [v0, v1, v2, v3]).take (Try.prog.cellsOf 23)) = xs[3]? := hf 3 _ rfl
    rw [c8] at g0
    rw [cS] at g1
    rw [c64] at g2
    rw [cK] at g3
    have hs : xs.length = 4 := hx
    rw [List.getElem?_eq_getElem (by omega)] at g0 g1 g2 g3
    obtain ⟨a0, e0, _, w0⟩ := DataW.trod_int Try.underlying22 g0
    obtain ⟨a1, e1, _, w1⟩ := DataW.trod_string Try.underlying9 g1
    obtain ⟨a2, e2, _, w2⟩ := DataW.trod_int Try.underlying3 g2
    have e0' : v0 = .int .u8 a0 := by simpa using e0
    have e1' : v1 = .string a1 := by simpa using e1
    have e2' : v2 = .int .i64 a2 := by simpa using e2
    subst e0' e1' e2'
    have b0 : 0 ≤ a0 ∧ a0 ≤ 255 := by simpa [Lit.wf, IntKind.min, IntKind.max, IntKind.signed, IntKind.bits] using w0
    have b2 : -9223372036854775808 ≤ a2 ∧ a2 ≤ 9223372036854775807 := by simpa [Lit.wf, IntKind.min, IntKind.max, IntKind.signed, IntKind.bits] using w2
    have hok : Hd.ok ⟨a0, a1, a2⟩ := ⟨b0.1, b0.2, w1, b2.1, b2.2⟩
    have hm : xs[3].1 ∈ xs.map (·.1) := List.mem_map.2 ⟨xs[3], List.getElem_mem _, rfl⟩
    have hbm := bulk_mem hm
    have hbulk : Rows.uptoBulk (DataW.agg (xs.map (·.1))) = Rows.uptoBulkAll (xs.map (·.1)) + 1 := by simp only [Rows.uptoBulk]
    rcases DataW.trod_slice Try.underlying23 g3 with ⟨hc, hd⟩ | ⟨a, len, cap, elems, rest, n', rfl, hc, hd, _, hlc, hcm, hel, hx3, _⟩
    · have e3 : v3 = .slice none 0 0 := by simpa using hc
      subst e3
      refine ⟨⟨a0, a1, a2⟩, .nil, none, 0, rfl, hok, trivial, ⟨Nat.le_refl _, by unfold maxLen; omega, fun h0 => by simp [Fo.len] at h0⟩, ?_⟩
      rw [hbulk]; simp only [Fo.size]; omega
    · have e3 : v3 = .slice (some a) len cap := by simpa using hc
      subst e3
      rw [hd] at hbm
      simp only [Rows.uptoBulk] at hbm
      rw [cT] at hx3
      have hk : ∀ i (hi : i < elems.length), ∃ cs, TyOpen w cs elems[i].1 ∧ ∀ j, j < 4 → w.cell? ((a.add (i * 4)).add j) = cs[j]? := by
        intro i hi
        have := hx3 i (by omega)
        rw [List.getElem?_eq_getElem hi] at this
        obtain ⟨cs', hc1, hc2⟩ := Option.bind_eq_some_iff.1 this
        exact ⟨cs', ih n' (by omega) cs' _ hc2, (World.cells?_some hc1).2.2⟩
      by_cases h0 : len = 0
      · subst h0
        refine ⟨⟨a0, a1, a2⟩, .nil, some a, cap, rfl, hok, trivial, ⟨Nat.zero_le _, hcm, fun h0 => by simp [Fo.len] at h0⟩, ?_⟩
        rw [hbulk]; simp only [Fo.size]; omega
      · obtain ⟨b, off, rfl⟩ : ∃ b off, a = ⟨b, off, none⟩ := by
          obtain ⟨cs', ⟨h', k', q', cap', rfl, _⟩, hc'⟩ := hk 0 (by omega)
          have := hc' 0 (by omega)
          simp [Addr.add] at this
          exact addr_plain this
        obtain ⟨f, f1, f2, f3, f4⟩ := kids_open (elems.map (·.1)) b off (fun i hi => by
          rw [List.length_map] at hi
          obtain ⟨cs', t, c⟩ := hk i hi
          refine ⟨cs', by simpa using t, fun j hj => ?_⟩
          have := c j hj
          rw [Addr.add_lit, Addr.add_lit] at this
          exact this)
        rw [List.length_map, hel] at f1
        refine ⟨⟨a0, a1, a2⟩, f, some ⟨b, off, none⟩, cap, by rw [f1], hok, f2, ⟨by omega, hcm, fun _ => ⟨b, off, rfl, f3⟩⟩, ?_⟩
        rw [hbulk]; omega
end

end Go.Proofs.Ytcjhgefkbnbmnaa

namespace Go.Proofs.Ytcjhgefkbnbmnaa
open Go.RowKit Go.Shelf LM
set_option linter.unusedVariables false
attribute [local go_sem] Oper.semAt_some

/-- A slice that reads as these fields. -/
structure FdSl (w : World) (a : Option Addr) (cap : Nat) (fs : List Fld) : Prop where
  lc : fs.length ≤ cap
  cm : cap ≤ maxLen
  at_ : 0 < fs.length → ∃ b o, a = some ⟨b, o, none⟩ ∧ b < w.heap.size ∧ ∀ i, (h : i < fs.length) → w.cell? ⟨b, o + i * 5, none⟩ = some (.string fs[i].name) ∧ w.cell? ⟨b, o + i * 5 + 1, none⟩ = some (.int .u8 fs[i].h.op) ∧
    w.cell? ⟨b, o + i * 5 + 2, none⟩ = some (.string fs[i].h.name) ∧ w.cell? ⟨b, o + i * 5 + 3, none⟩ = some (.int .i64 fs[i].h.n) ∧ w.cell? ⟨b, o + i * 5 + 4, none⟩ = some (.slice fs[i].q fs[i].k.len fs[i].cap)
/-- The last k of them, from the last on, with their places. -/
def bkw (fs : List Fld) (k : Nat) : List (Nat × Fld) := (List.range k).map fun j => (fs.length - 1 - j, fs.getD (fs.length - 1 - j) default)
def encB (x : Nat × Fld) : Array Value := #[Value.int .i64 (x.1 : Int), .agg #[.string x.2.name, .int .u8 x.2.h.op, .string x.2.h.name, .int .i64 x.2.h.n, .slice x.2.q x.2.k.len x.2.cap]]

/-- What the iterator reads between two rounds lies as it lay. -/
def KpB (Bs : Nat) (q : Option Addr) (len : Nat) (A B : World) : Prop := B.heap[Bs]? = A.heap[Bs]? ∧ ∀ b o, q = some ⟨b, o, none⟩ → 0 < len → B.heap[b]? = A.heap[b]?
/-! ### Rows that are made -/
/-- The row of these fields and this tail, plainly. -/
def rowT (t : Hd × Fo) : List (ByteArray × Hd × Fo) → Hd × Fo
  | [] => t
  | (nm, h, k) :: r => (⟨11, nm, 0⟩, .cons h k (.cons (rowT t r).1 (rowT t r).2 .nil))
/-- The row's own arrays, one a field. -/
inductive JCh (w : World) (th : Hd) (tk : Fo) (tq : Option Addr) (tc : Nat) : List Fld → Hd → Fo → Option Addr → Nat → List Nat → Prop
  | nil : JCh w th tk tq tc [] th tk tq tc []
  | cons {f : Fld} {fs : List Fld} {h : Hd} {k : Fo} {q : Option Addr} {c : Nat} {bs : List Nat} {b : Nat} (next : JCh w th tk tq tc fs h k q c bs) (hc : k.len ≤ c ∧ c ≤ maxLen)
      (hb : w.heap[b]? = some (.cells #[.int .u8 f.h.op, .string f.h.name, .int .i64 f.h.n, .slice f.q f.k.len f.cap, .int .u8 h.op, .string h.name, .int .i64 h.n, .slice q k.len c] 25 (0, 0))) :
      JCh w th tk tq tc (f :: fs) ⟨11, f.name, 0⟩ (.cons f.h f.k (.cons h k .nil)) (some ⟨b, 0, none⟩) 2 (b :: bs)
/-- What join answers. -/
def JnPost (w : World) (fs : List Fld) (th : Hd) (tk : Fo) (tq : Option Addr) (tc : Nat) (e : Ending) (w' : World) : Prop :=
  ∃ h k q c bs, e = .returned (.agg #[.int .u8 h.op, .string h.name, .int .i64 h.n, .slice q k.len c]) ∧ JCh w' th tk tq tc fs h k q c bs ∧ bs.Nodup ∧ (∀ b ∈ bs, w.heap.size ≤ b ∧ b < w'.heap.size) ∧ Below w.heap.size w w'
end Go.Proofs.Ytcjhgefkbnbmnaa

/- join. -/
namespace Go.Proofs.Ytcjhgefkbnbmnaa
open Go.RowKit Go.Shelf LM
set_option linter.unusedVariables false
attribute [local go_sem] Oper.semAt_some

/-- While the fields are gone through from the last on. -/
def JnI (w : World) (th : Hd) (tk : Fo) (tq : Option Addr) (tc : Nat) (pre : List (Nat × Fld)) (W : World) : Prop :=
  ∃ h k q c bs, W.heap[w.heap.size]? = some (.cells #[.int .u8 h.op, .string h.name, .int .i64 h.n, .slice q k.len c] 25 (0, 0)) ∧ W.heap[w.heap.size + 1]? = some (.cells #[.int .u8 0, .string ⟨#[]⟩, .int .i64 0, .slice none 0 0] 25 (0, 0)) ∧
    JCh W th tk tq tc ((pre.map (·.2)).reverse) h k q c bs ∧ (k.len ≤ c ∧ c ≤ maxLen) ∧ bs.Nodup ∧ (∀ b ∈ bs, w.heap.size + 3 ≤ b ∧ b < W.heap.size) ∧ Below w.heap.size w W ∧ w.heap.size + 3 ≤ W.heap.size

end Go.Proofs.Ytcjhgefkbnbmnaa

/- Join, the document's Of. -/
namespace Go.Proofs.Ytcjhgefkbnbmnaa
open Go.RowKit LM
set_option linter.unusedVariables false

/-- A field, plainly. -/
def Fld.key (f : Fld) : ByteArray × Hd × Fo := (f.name, f.h, f.k)
theorem rowT_size (t : Hd × Fo) : ∀ (l : List (ByteArray × Hd × Fo)), (rowT t l).2.size = t.2.size + (l.map fun x => x.2.2.size + 2).sum
  | [] => by simp [rowT]
  | (nm, h, k) :: r => by simp only [rowT, Fo.size, rowT_size t r, List.map_cons, List.sum_cons]; omega

/-- A tree in what lay at first and in blocks from n on: told by what agrees there. -/
def AgF (N n : Nat) (wr : World) (q : Option Addr) (c : Nat) (k : Fo) : Prop := ∀ w'' : World, (∀ b, (b < N ∨ n ≤ b) → b < wr.heap.size → w''.heap[b]? = wr.heap[b]?) → SlF w'' q c k
end Go.Proofs.Ytcjhgefkbnbmnaa

/- Flat of what is no row; SameFields. -/
namespace Go.Proofs.Ytcjhgefkbnbmnaa
open Go.RowKit LM
set_option linter.unusedVariables false

end Go.Proofs.Ytcjhgefkbnbmnaa

/- The document's Fields. -/
namespace Go.Proofs.Ytcjhgefkbnbmnaa
open Go.RowKit LM
set_option linter.unusedVariables false

/-- One more of those that are gone through: the new one is put ahead of the first that is greater. -/
def stp (f : Fld) (s : List Fld × Bool) (y : Fld) : List Fld × Bool := if !s.2 && ltF f y then (s.1 ++ [f] ++ [y], true) else (s.1 ++ [y], s.2)
def stps (f : Fld) (os : List Fld) : List Fld × Bool := os.foldl (stp f) ([], false)
/-- Behind all. -/
def finS (f : Fld) (s : List Fld × Bool) : List Fld := if s.2 then s.1 else s.1 ++ [f]
/-- What Fields keeps while it goes on. -/
structure RfI (w : World) (fs pre rest : List Fld) (h : Hd) (k : Fo) (q : Option Addr) (cap : Nat) (th : Hd) (tk : Fo) (tq : Option Addr) (tc : Nat) (v : Value) (wr : World) : Prop where
  eq : fs = pre ++ rest
  own : wr.ownsRow (w.heap.size + 2) 40 5 v pre.length (fldCells (srt ltF pre))
  ch : RowCh w h k q cap rest th tk tq tc
  box : wr.heap[w.heap.size]? = some (.cells #[.int .u8 h.op, .string h.name, .int .i64 h.n, .slice q k.len cap] 25 (0, 0))
  res : wr.heap[w.heap.size + 1]? = some (.cells #[.int .u8 0, .string ⟨#[]⟩, .int .i64 0, .slice none 0 0] 25 (0, 0))
  below : Below w.heap.size w wr
  room : w.heap.size + 2 ≤ wr.heap.size

end Go.Proofs.Ytcjhgefkbnbmnaa

/- KindsFlat: the law's walk. -/
namespace Go.Proofs.Ytcjhgefkbnbmnaa
open Go.RowKit LM
set_option linter.unusedVariables false

/-- The row's box. -/
structure Box1 (w : World) (h : Hd) (k : Fo) (q : Option Addr) (cap : Nat) (W : World) : Prop where
  b0 : W.heap[w.heap.size]? = some (.cells #[.int .u8 h.op, .string h.name, .int .i64 h.n, .slice q k.len cap] 25 (0, 0))
  below : Below w.heap.size w W
/-- The fields of an argument. -/
structure FlsIs (w : World) (q : Option Addr) (cap : Nat) (fs : List Fld) : Prop where
  sl : FdSl w q cap fs
  m : ∀ f ∈ fs, f.name.size ≤ maxLen ∧ f.h.ok ∧ f.k.ok ∧ SlF w f.q f.cap f.k ∧ 1 + f.k.size ≤ 1099511627776
  n : fs.length ≤ 1099511627776

section
variable {α β : Type} {lt : α → α → Bool} {lt' : β → β → Bool} {p : α → β}
end
end Go.Proofs.Ytcjhgefkbnbmnaa

/- A slice of fields among the arguments, opened. -/
namespace Go.Proofs.Ytcjhgefkbnbmnaa
open Go.ChangeShapes Go.WideShapes Go.ChangeAt Go.RowKit LM
set_option linter.unusedVariables false

section
variable {H : Type} {enc : TypeId × Value → H} {w : World} {base : Nat} {spare : Nat → Bool} {held : Bool}

/-- What the reading of a field tells. -/
def FdOpen (w : World) (cs : List Value) (d : DataW H) : Prop :=
  ∃ f : Fld, cs = f.enc ∧ f.name.size ≤ maxLen ∧ f.h.ok ∧ f.k.ok ∧ SlF w f.q f.cap f.k ∧ f.k.size + 2 ≤ Rows.uptoBulk d
end

end Go.Proofs.Ytcjhgefkbnbmnaa

namespace Go.Proofs.Ytcjhgefkbnbmnaa
open Go.RowKit LM
set_option linter.unusedVariables false

theorem ins_perm {α : Type} {lt : α → α → Bool} (x : α) : ∀ l : List α, (ins lt x l).Perm (x :: l)
  | [] => .refl _
  | y :: l => by
    unfold ins
    split
    · exact .refl _
    · exact ((ins_perm x l).cons y).trans (.swap x y l)
theorem srt_perm {α : Type} {lt : α → α → Bool} (l : List α) : (srt lt l).Perm l := by
  have key : ∀ (l acc : List α), (l.foldl (fun acc x => ins lt x acc) acc).Perm (acc ++ l) := by
    intro l
    induction l with
    | nil => intro acc; simp
    | cons x l ih =>
      intro acc
      rw [List.foldl_cons]
      exact (ih _).trans (((ins_perm x acc).append_right l).trans List.perm_middle.symm)
  have h := key l []
  rw [List.nil_append] at h
  exact h
/-- A row with its own fields in order, plainly; a type as it is. -/
def rowS (h : Hd) (k : Fo) : Hd × Fo := rowT (rowF h k).2 (srt (fun a b : ByteArray × Hd × Fo => decide (Lib.compareBytes a.1.data.toList b.1.data.toList < 0)) (rowF h k).1)
/-- What sorted answers: a tree of blocks of the call's own, and of those of what it was given. -/
def SdPost (w : World) (h : Hd) (k : Fo) (F : List Nat) (e : Ending) (w' : World) : Prop :=
  ∃ q' c' F', e = .returned (.agg #[.int .u8 h.op, .string h.name, .int .i64 h.n, .slice q' k.len c']) ∧ OwnF w' q' k F' ∧ F'.Nodup ∧ (∀ c ∈ F', c ∈ F ∨ (w.heap.size ≤ c ∧ c < w'.heap.size)) ∧ k.len ≤ c' ∧ c' ≤ maxLen ∧ Below w.heap.size w w'

end Go.Proofs.Ytcjhgefkbnbmnaa

/- The canonical form, plainly, and parts that are still to be brought into it. -/
namespace Go.Proofs.Ytcjhgefkbnbmnaa
open Go.RowKit LM
set_option linter.unusedVariables false

theorem rowF_size : ∀ (k : Fo) (h : Hd), (rowF h k).2.2.size + ((rowF h k).1.map fun x => x.2.2.size + 2).sum ≤ k.size
  | .nil, h => by simp [rowF]
  | .cons h0 k0 .nil, h => by simp [rowF]
  | .cons h0 k0 (.cons h1 k1 r), h => by
    unfold rowF
    split
    · have := rowF_size k1 h1
      simp only [List.map_cons, List.sum_cons, Fo.size]
      omega
    · simp
theorem rowS_size (h : Hd) (k : Fo) : (rowS h k).2.size ≤ k.size := by
  unfold rowS
  rw [rowT_size, ((srt_perm (rowF h k).1).map _).sum_nat]
  exact rowF_size k h

/-- What hangs on a part once its row is sorted. -/
def topS (h : Hd) : Fo → Fo
  | .nil => .nil
  | .cons h0 k0 r => if h.op = 5 ∨ h.op = 6 then .cons (rowS h0 k0).1 (rowS h0 k0).2 r else .cons h0 k0 r
theorem topS_size (h : Hd) (k : Fo) : (topS h k).size ≤ k.size := by
  cases k with
  | nil => exact Nat.le_refl _
  | cons h0 k0 r =>
    simp only [topS]
    split
    · have := rowS_size h0 k0; simp only [Fo.size]; omega
    · exact Nat.le_refl _
/-- Trees side by side, the rows in each sorted from the root on. -/
def canL : Fo → Fo
  | .nil => .nil
  | .cons h k r => .cons h (canL (topS h k)) (canL r)
termination_by f => f.size
decreasing_by
  all_goals simp only [Fo.size]
  · have := topS_size h k; omega
  · omega
/-- The canonical form of a tree. -/
def canT (h : Hd) (k : Fo) : Hd × Fo := ((rowS h k).1, canL (topS (rowS h k).1 (rowS h k).2))
/-- A part that is still to come: what hangs on it is the call's own, and its final form is told. -/
def PendK : PendT := fun w b o h kf F => ∃ k q cap, kf = canL (topS h k) ∧ k.size ≤ 1099511627776 ∧ (∃ ks, kidsL h.op = some ks ∧ k.shapes ks = true) ∧ HdAt w b o h q k.len cap ∧ OwnF w q k F
/-- Has a tree the shape of a part of this sort? -/
def sh1 (h : Hd) (k : Fo) (s : Nat) : Bool := (Fo.cons h k .nil).shapes [s]
end Go.Proofs.Ytcjhgefkbnbmnaa

/- What canon keeps while the parts are gone through. -/
namespace Go.Proofs.Ytcjhgefkbnbmnaa
open Go.RowKit LM
set_option linter.unusedVariables false

/-- What canon keeps: blocks from N on are the loop's, D those of them that it may write. -/
structure CanI (w : World) (N : Nat) (h : Hd) (f : Fo) (k : Nat) (st : List Pl) (ts : List (Hd × Fo)) (F : List Nat) (D : Nat → Prop) (W : World) : Prop where
  n : k = (flatL ts).length
  small : k ≤ 1099511627776
  pt : PT PendK W (.cons h f .nil) w.heap.size 0 st ts F
  nd : (w.heap.size :: F).Nodup
  big : ∀ c ∈ F, w.heap.size + 2 ≤ c
  own : ∀ c ∈ F, N ≤ c → D c
  lt : ∀ c ∈ F, c < W.heap.size
  row : RowB W w.heap.size
  res : W.heap[w.heap.size + 1]? = some (.cells #[.int .u8 0, .string ⟨#[]⟩, .int .i64 0, .slice none 0 0] 25 (0, 0))
  below : Below w.heap.size w W
  base : w.heap.size + 2 ≤ N
  room : N ≤ W.heap.size

end Go.Proofs.Ytcjhgefkbnbmnaa

/- A part whose row is sorted in place: what canon keeps behind it. -/
namespace Go.Proofs.Ytcjhgefkbnbmnaa
open Go.RowKit LM
set_option linter.unusedVariables false

end Go.Proofs.Ytcjhgefkbnbmnaa

/- Where canon's loop begins and ends. -/
namespace Go.Proofs.Ytcjhgefkbnbmnaa
open Go.RowKit LM
set_option linter.unusedVariables false

end Go.Proofs.Ytcjhgefkbnbmnaa

/- canon. -/
namespace Go.Proofs.Ytcjhgefkbnbmnaa
open Go.RowKit Go.Shelf LM
set_option linter.unusedVariables false
attribute [local go_sem] Oper.semAt_some

end Go.Proofs.Ytcjhgefkbnbmnaa

/- Canon. -/
namespace Go.Proofs.Ytcjhgefkbnbmnaa
open Go.RowKit LM
set_option linter.unusedVariables false

end Go.Proofs.Ytcjhgefkbnbmnaa

namespace Go.Proofs.Ytcjhgefkbnbmnaa
open Go.RowKit LM
set_option linter.unusedVariables false

/-- Each tree's canonical form. -/
def canM : Fo → Fo
  | .nil => .nil
  | .cons h k r => .cons (canT h k).1 (canT h k).2 (canM r)
/-- The order of fields. -/
abbrev ltN : ByteArray × Hd × Fo → ByteArray × Hd × Fo → Bool := fun a b => decide (Lib.compareBytes a.1.data.toList b.1.data.toList < 0)
def canX (x : ByteArray × Hd × Fo) : ByteArray × Hd × Fo := (x.1, (canT x.2.1 x.2.2).1, (canT x.2.1 x.2.2).2)
end Go.Proofs.Ytcjhgefkbnbmnaa

/- Two lists of parts' places, their heads held one against the other. -/
namespace Go.Proofs.Ytcjhgefkbnbmnaa
open Go.RowKit LM
set_option linter.unusedVariables false

/-- A head at a place. -/
structure HAt (w : World) (p : Pl) (h : Hd) : Prop where
  c0 : w.cell? ⟨p.1, p.2, none⟩ = some (.int .u8 h.op)
  c1 : w.cell? ⟨p.1, p.2 + 1, none⟩ = some (.string h.name)
  c2 : w.cell? ⟨p.1, p.2 + 2, none⟩ = some (.int .i64 h.n)
/-- Places with their heads. -/
def HsAt (w : World) : List Pl → List Hd → Prop
  | [], [] => True
  | p :: ps, h :: hs => HAt w p h ∧ HsAt w ps hs
  | _, _ => False
/-- Are two heads alike? -/
def hdB (a b : Hd) : Bool := decide (a.op = b.op) && decide (a.name = b.name) && decide (a.n = b.n)
/-- A slice of places, in memory. -/
def PsAt (w : World) (a : Option Addr) (ps : List Pl) : Prop := 0 < ps.length → ∃ b o, a = some ⟨b, o, none⟩ ∧ ∀ i (h : i < ps.length), w.cell? ⟨b, o + i, none⟩ = some (.pointer (some ⟨ps[i].1, ps[i].2, none⟩))
/-- What holds while the first j have been found alike. -/
structure EqI (w : World) (hs hs' : List Hd) (L j : Nat) (wr : World) : Prop where
  le : j ≤ L
  al : hs.take j = hs'.take j
  below : Below w.heap.size w wr
end Go.Proofs.Ytcjhgefkbnbmnaa

/- The places of all parts, gathered: AppendSeq, Collect. -/
namespace Go.Proofs.Ytcjhgefkbnbmnaa
open Go.RowKit Go.Shelf LM
set_option linter.unusedVariables false
attribute [local go_sem] Oper.semAt_some

/-- What is kept while places are gathered. -/
def PlB (w1 : World) (Bp base : Nat) (pre : List (Hd × Fo)) (D : Nat → Prop) (W : World) : Prop :=
  ∃ v pls, Boxed W Bp 69 v ∧ W.ownsRow base 64 1 v pre.length (pls.map Pl.ptr) ∧ HsAt w1 pls (pre.map Prod.fst) ∧ ∀ g, v.ownBlock = some g → D g
/-- The places of all parts come back. -/
def PsPost (w : World) (hs : List Hd) (e : Ending) (w' : World) : Prop :=
  ∃ a cap pls, e = .returned (.slice a hs.length cap) ∧ hs.length ≤ cap ∧ PsAt w' a pls ∧ HsAt w' pls hs ∧ Below w.heap.size w w'

end Go.Proofs.Ytcjhgefkbnbmnaa

/- Same. -/
namespace Go.Proofs.Ytcjhgefkbnbmnaa
open Go.RowKit Go.Shelf LM
set_option linter.unusedVariables false

/-- Behind the two canonical forms. -/
structure SmB (w : World) (T T' : Hd × Fo) (q : Option Addr) (c : Nat) (q' : Option Addr) (c' : Nat) (W : World) : Prop where
  b0 : W.heap[w.heap.size]? = some (.cells #[.int .u8 T.1.op, .string T.1.name, .int .i64 T.1.n, .slice q T.2.len c] 25 (0, 0))
  b1 : W.heap[w.heap.size + 1]? = some (.cells #[.int .u8 T'.1.op, .string T'.1.name, .int .i64 T'.1.n, .slice q' T'.2.len c'] 25 (0, 0))
  s0 : SlF W q c T.2
  s1 : SlF W q' c' T'.2
  below : Below w.heap.size w W
def SameMid (w : World) (T T' : Hd × Fo) (e : Exit) (a : Act) (W : World) : Prop :=
  e = .normal ∧ ∃ (q q' : Option Addr) (c c' : Nat) (u0 u1 u5 u6 u7 u8 u9 u10 u11 u12 u13 u14 u15 u16 : Value),
    a = { tmps := #[u0, u1, .pointer (some ⟨w.heap.size, 0, none⟩), .pointer (some ⟨w.heap.size + 1, 0, none⟩), .bool false, u5, u6, u7, u8, u9, u10, u11, u12, u13, u14, u15, u16, undef, undef, undef, undef, undef], defers := [] } ∧ SmB w T T' q c q' c' W

end Go.Proofs.Ytcjhgefkbnbmnaa

/- The document's Of, with what its answer hangs on. -/
namespace Go.Proofs.Ytcjhgefkbnbmnaa
open Go.RowKit LM
set_option linter.unusedVariables false

/-- A tree in blocks that S names: told by what agrees there. -/
def DpS (S : Nat → Prop) (w : World) (q : Option Addr) (c : Nat) (k : Fo) : Prop := ∀ w'' : World, (∀ b, S b → b < w.heap.size → w''.heap[b]? = w.heap[b]?) → SlF w'' q c k
def AgS (S : Nat → Prop) (N n : Nat) (wr : World) (q : Option Addr) (c : Nat) (k : Fo) : Prop := ∀ w'' : World, (∀ b, ((S b ∧ b < N) ∨ n ≤ b) → b < wr.heap.size → w''.heap[b]? = wr.heap[b]?) → SlF w'' q c k
/-- A tree comes back, with what it hangs on. -/
def OfPost (S : Nat → Prop) (w : World) (T : Hd × Fo) (e : Ending) (w' : World) : Prop :=
  ∃ q cap, e = .returned (.agg #[.int .u8 T.1.op, .string T.1.name, .int .i64 T.1.n, .slice q T.2.len cap]) ∧ DpS (fun b => S b ∨ w.heap.size ≤ b) w' q cap T.2 ∧ Below w.heap.size w w'

end Go.Proofs.Ytcjhgefkbnbmnaa

/- Trees that are made of a tree's Kids, one by one: what a loop keeps that appends them. -/
namespace Go.Proofs.Ytcjhgefkbnbmnaa
open Go.RowKit LM
set_option linter.unusedVariables false

def mapG (G : Hd → Fo → Hd × Fo) : Fo → Fo
  | .nil => .nil
  | .cons h k r => .cons (G h k).1 (G h k).2 (mapG G r)
/-- A tree of new memory comes back. -/
def CnPost (w : World) (T : Hd × Fo) (e : Ending) (w' : World) : Prop :=
  ∃ q cap, e = .returned (.agg #[.int .u8 T.1.op, .string T.1.name, .int .i64 T.1.n, .slice q T.2.len cap]) ∧ DpS (fun b => w.heap.size ≤ b) w' q cap T.2 ∧ Below w.heap.size w w'

/-- Where the boxes lie. -/
structure MpS (w : World) (bt br bo base : Nat) : Prop where
  t0 : w.heap.size ≤ bt
  t1 : bt < base
  r0 : w.heap.size ≤ br
  r1 : br < base
  o0 : w.heap.size ≤ bo
  o1 : bo < base
  tr : bt ≠ br
  tO : bt ≠ bo
  ro : br ≠ bo

/-- What is kept along the Kids. -/
structure MpI (w : World) (h ho : Hd) (k : Fo) (q : Option Addr) (L cap : Nat) (G : Hd → Fo → Hd × Fo) (bt br bo base : Nat) (j : Nat) (v : Value) (wr : World) : Prop where
  le : j ≤ L
  own : ∃ cs, wr.ownsRow base 25 4 v j cs ∧ ∀ w'' : World, (∀ b, base ≤ b → b < wr.heap.size → v.ownBlock ≠ some b → w''.heap[b]? = wr.heap[b]?) → CellsOf w'' (mapG G (k.take j)) cs
  bt : wr.heap[bt]? = some (.cells #[.int .u8 h.op, .string h.name, .int .i64 h.n, .slice q L cap] 25 (0, 0))
  br : wr.heap[br]? = some (.cells #[.int .u8 0, .string ⟨#[]⟩, .int .i64 0, .slice none 0 0] 25 (0, 0))
  bo : wr.heap[bo]? = some (.cells #[.int .u8 ho.op, .string ho.name, .int .i64 ho.n, v] 25 (0, 0))
  below : Below w.heap.size w wr
  room : base ≤ wr.heap.size

end Go.Proofs.Ytcjhgefkbnbmnaa

/- The document's Canon: plain words, and what its first loop keeps. -/
namespace Go.Proofs.Ytcjhgefkbnbmnaa
open Go.RowKit LM
set_option linter.unusedVariables false

/-- A field whose type has been put anew. -/
def reF (f : Fld) (T : Hd × Fo) (q : Option Addr) (cap : Nat) : Fld := ⟨f.name, T.1, q, T.2, cap⟩
end Go.Proofs.Ytcjhgefkbnbmnaa

/- The document's Canon: a row's fields, one by one. -/
namespace Go.Proofs.Ytcjhgefkbnbmnaa
open Go.RowKit LM
set_option linter.unusedVariables false

/-- The blocks in which what has been put lies. -/
def Sx (w : World) (a : Option Addr) (n cp : Nat) (b : Nat) : Prop := w.heap.size + 2 ≤ b ∧ (Value.slice a n cp).ownBlock ≠ some b

structure RwI (w : World) (gs : List Fld) (th : Hd) (tk : Fo) (tq : Option Addr) (tc : Nat) (a : Option Addr) (n cp bT j : Nat) (wr : World) : Prop where
  le : j ≤ n
  ds : ∃ ds : List Fld, wr.ownsRow (w.heap.size + 2) 40 5 (.slice a n cp) n (fldCells ds) ∧ ds.length = n ∧
      (∀ i (h1 : i < ds.length) (h2 : i < gs.length), ds[i].name = gs[i].name ∧ (i < j → (ds[i].h, ds[i].k) = canT gs[i].h gs[i].k ∧ DpS (Sx w a n cp) wr ds[i].q ds[i].cap ds[i].k) ∧ (j ≤ i → ds[i] = gs[i]))
  res : wr.heap[w.heap.size + 1]? = some (.cells #[.int .u8 0, .string ⟨#[]⟩, .int .i64 0, .slice none 0 0] 25 (0, 0))
  tb : wr.heap[bT]? = some (.cells #[.int .u8 th.op, .string th.name, .int .i64 th.n, .slice tq tk.len tc] 25 (0, 0))
  below : Below w.heap.size w wr
  room : w.heap.size + 2 ≤ bT

end Go.Proofs.Ytcjhgefkbnbmnaa
