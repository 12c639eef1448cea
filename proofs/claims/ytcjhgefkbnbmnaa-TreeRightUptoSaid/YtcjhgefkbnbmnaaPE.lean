/- The document's Right, Row; many. -/
import Derived.Test.YtcjhgefkbnbmnaaPKdTW
import Derived.Test.YtcjhgefkbnbmnaaPD
import Derived.Deep.RegionWith
import Derived.Deep.RegionHeld3
import Derived.WalkKit
import Derived.ProofKit
import Derived.OpenShut
import Derived.JoinedCond
import Derived.Test.YtcjhgefkbnbmnaaRows
import Derived.RangeFuncNested
import Derived.RangeFuncBound
import Derived.RangeFuncCalls
import Derived.RangeFuncLeaves
import Derived.Shelf.Abstract
import Derived.OwnWalkIn
import Derived.TacticsInMore
import Derived.LoopNIn
import Derived.LoopIn
import Derived.StillTailTactics
import Derived.WalkLawsBesides
import Derived.BigRegion
import Derived.Test.YtcjhgefkbnbmnaaPKdI
import Derived.Deep.QuietTactic
import Derived.BigQuiet
namespace Go.Proofs.Ytcjhgefkbnbmnaa
open Go.RowKit LM
set_option linter.unusedVariables false

theorem below_go2 {w W w' : World} (h : Below w.heap.size w W) (hb : Below W.heap.size W w') : Below w.heap.size w w' := h.trans (hb.mono h.size)

set_option maxRecDepth 100000 in
theorem many_any (h : Hd) (k : Fo) (q : Option Addr) (cap : Nat) (w : World) (hsz : 1 + k.size ≤ 1099511627776) (hsl : SlF w q cap k) :
    Calls Try.prog 10 #[.agg #[.int .u8 h.op, .string h.name, .int .i64 h.n, .slice q k.len cap]] w fun e w' => e = .returned (.bool (decide (400 < 1 + k.size))) ∧ Below w.heap.size w w' := by
  have HP := Lib.hid (Parts_any (k.size + 1) h k q cap (w.alloc (.cells #[.int .u8 h.op, .string h.name, .int .i64 h.n, .slice q k.len cap] 25)) (by omega) hsz (hsl.below (below_box _ _)))
  clear hsl
  generalize hN : 1 + k.size = N at *
  have HNN := Lib.hid hN
  clear hN
  have HD : Hid (∀ b, b = decide (400 < N) → b = decide (400 < N)) := Lib.hid fun _ h => h
  go_enter Try.func10, Try.ntmps10
  go_wp2_with fail
  refine HP.out.mono ?_
  rintro e w1 ⟨v1, ps, rfl, own1, hps, hb1⟩
  have hN2 : 1 + k.size = N := HNN.out
  have hN0 : 0 < N := by omega
  rw [hN2] at own1
  obtain ⟨g, cp, cur, rfl, hg, hb1g, hcp, hcm, hcl⟩ := own_some own1 hN0
  have HB1 := Lib.hid (below_then (below_box _ _) hb1)
  clear hb1 hcl own1 hb1g hg hps hN2
  go_wp2
  go_ret
  refine ⟨ret_bool ?_, HB1.out⟩
  rw [Bool.eq_iff_iff]; simp; omega

theorem shape_t (h : Hd) (k : Fo) (q : Option Addr) (cap : Nat) (w : World) (hh : h.ok) (hk : k.ok) (hsl : SlF w q cap k) :
    Calls Try.prog 59 #[.agg #[.int .u8 h.op, .string h.name, .int .i64 h.n, .slice q k.len cap], .int .u8 116] w fun e w' => e = .returned (.bool (shape1 h k 1)) ∧ Below w.heap.size w w' :=
  shape_any (k.size + 1) h k 1 116 q cap w (by omega) hh hk (.inl rfl) rfl hsl
set_option maxRecDepth 100000 in
theorem refRight_any (h : Hd) (k : Fo) (q : Option Addr) (cap : Nat) (w : World) (hh : h.ok) (hk : k.ok) (hsz : 1 + k.size ≤ 1099511627776) (hsl : SlF w q cap k) :
    Calls Try.prog 14 #[.agg #[.int .u8 h.op, .string h.name, .int .i64 h.n, .slice q k.len cap]] w fun e w' => e = .returned (.bool (rightB h k 1)) ∧ Below w.heap.size w w' := by
  have HS := Lib.hid fun w' hb => shape_t h k q cap w' hh hk (hsl.below (w := w) hb)
  have HO := Lib.hid fun w' hb => once_any h k q cap w' hsz (hsl.below (w := w) hb)
  have HR : Hid (rightB h k 1 = (shape1 h k 1 && onceB ((h, k) :: k.flat))) := Lib.hid (by unfold rightB shape1; simp [Fo.flat])
  clear hh hk hsz hsl
  generalize rightB h k 1 = r at *
  generalize onceB ((h, k) :: k.flat) = r2 at *
  generalize k.len = L at *
  cases hs : shape1 h k 1
  · rw [hs] at HS HR
    clear hs
    go_enter Try.func14, Try.ntmps14
    go_wp2_with (first
      | (go_at_call 59; refine (HS.out _ (below_box _ _)).mono ?_; rintro e w1 ⟨rfl, hb1⟩; obtain ⟨hbc, hbf⟩ := bcell hb1; have HB1 := Lib.hid (below_then (below_box _ _) hb1); clear hb1)
      | (go_at_call 60; refine (HO.out _ HB1.out).mono ?_; rintro e w2 ⟨rfl, hb2⟩; have HB2 := Lib.hid (below_go2 HB1.out hb2); clear hb2))
    go_ret
    exact ⟨ret_bool (by rw [HR.out]; rfl), HB1.out⟩
  · rw [hs] at HS HR
    clear hs
    go_enter Try.func14, Try.ntmps14
    go_wp2_with (first
      | (go_at_call 59; refine (HS.out _ (below_box _ _)).mono ?_; rintro e w1 ⟨rfl, hb1⟩; obtain ⟨hbc, hbf⟩ := bcell hb1; have HB1 := Lib.hid (below_then (below_box _ _) hb1); clear hb1)
      | (go_at_call 60; refine (HO.out _ HB1.out).mono ?_; rintro e w2 ⟨rfl, hb2⟩; have HB2 := Lib.hid (below_go2 HB1.out hb2); clear hb2))
    go_ret
    exact ⟨ret_bool (by rw [HR.out]; rfl), HB2.out⟩

end Go.Proofs.Ytcjhgefkbnbmnaa

namespace Go.Proofs.Ytcjhgefkbnbmnaa
open Go.RowKit LM
set_option linter.unusedVariables false

/-- A tree that lies in memory, no greater than Go bears. -/
structure TyIs (w : World) (h : Hd) (k : Fo) (q : Option Addr) (cap : Nat) : Prop where
  hh : h.ok
  hk : k.ok
  sl : SlF w q cap k
  sz : 1 + k.size ≤ 1099511627776

end Go.Proofs.Ytcjhgefkbnbmnaa

namespace Go.Proofs.Ytcjhgefkbnbmnaa
open Go.ChangeShapes Go.WideShapes Go.ChangeAt Go.RowKit LM
set_option linter.unusedVariables false

theorem four {cs : List Value} (h : cs.length = 4) : ∃ v0 v1 v2 v3, cs = [v0, v1, v2, v3] := by
  match cs, h with
  | [v0, v1, v2, v3], _ => exact ⟨v0, v1, v2, v3, rfl⟩

section
variable {H : Type} {enc : TypeId × Value → H} {w : World} {base : Nat} {spare : Nat → Bool} {held : Bool}

theorem bulk_mem {d : DataW H} {l : List (DataW H)} (h : d ∈ l) : Rows.uptoBulk d ≤ Rows.uptoBulkAll l := by
  induction l with
  | nil => cases h
  | cons x r ih =>
    simp only [Rows.uptoBulkAll]
    rcases List.mem_cons.1 h with rfl | e
    · omega
    · have := ih e; omega

theorem addr_plain {a : Addr} {v : Value} (h : w.cell? a = some v) : ∃ b off, a = ⟨b, off, none⟩ := by
  have hs : a.spot = none := World.cell?_spot h
  obtain ⟨b, off, spot⟩ := a
  subst hs
  exact ⟨b, off, rfl⟩

/-- What the reading of a type tells. -/
def TyOpen (w : World) (cs : List Value) (d : DataW H) : Prop :=
  ∃ (h : Hd) (k : Fo) (q : Option Addr) (cap : Nat), cs = [.int .u8 h.op, .string h.name, .int .i64 h.n, .slice q k.len cap] ∧ h.ok ∧ k.ok ∧ SlF w q cap k ∧ 1 + k.size ≤ Rows.uptoBulk d

theorem kids_open : ∀ (elems : List (DataW H)) (b o : Nat),
    (∀ i (hi : i < elems.length), ∃ cs, TyOpen w cs elems[i] ∧ ∀ j, j < 4 → w.cell? ⟨b, o + i * 4 + j, none⟩ = cs[j]?) → ∃ f : Fo, f.len = elems.length ∧ f.ok ∧ FoAt w f b o ∧ f.size ≤ Rows.uptoBulkAll elems := by
  intro elems
  induction elems with
  | nil => intro b o _; exact ⟨.nil, rfl, trivial, trivial, Nat.le_refl _⟩
  | cons d r ih =>
    intro b o hx
    obtain ⟨cs, ⟨h, k, q, cap, rfl, hh, hk, hs, hb⟩, hc⟩ := hx 0 (by simp)
    obtain ⟨f, h1, h2, h3, h4⟩ := ih b (o + 4) (fun i hi => by
      obtain ⟨cs, t, c⟩ := hx (i + 1) (by simpa using hi)
      refine ⟨cs, by simpa using t, fun j hj => ?_⟩
      have := c j hj
      rw [show o + (i + 1) * 4 + j = o + 4 + i * 4 + j by omega] at this
      exact this)
    refine ⟨.cons h k f, by simp [Fo.len, h1], ⟨hh, hk, h2⟩, ⟨q, cap, ⟨?_, ?_, ?_, ?_, hs.lc, hs.cm⟩, hs.at_, h3⟩, ?_⟩
    · simpa using hc 0 (by omega)
    · simpa using hc 1 (by omega)
    · simpa using hc 2 (by omega)
    · simpa using hc 3 (by omega)
    · simp only [List.getElem_cons_zero] at hb
      simp only [Fo.size, Rows.uptoBulkAll]; omega

theorem ty_open : ∀ (fuel : Nat) (cs : List Value) (x : DataW H × List MemPlace), DataW.trod enc Try.prog w base spare held fuel 25 cs = some x → TyOpen w cs x.1 := by
  intro fuel
  induction fuel using Nat.strongRecOn with
  | ind fuel ih =>
    intro cs x h
    have cT : Try.prog.cellsOf 25 = 4 := by kernel_rfl
    have c8 : Try.prog.cellsOf 22 = 1 := by kernel_rfl
    have c64 : Try.prog.cellsOf 3 = 1 := by kernel_rfl
    have cS : Try.prog.cellsOf 9 = 1 := by kernel_rfl
    have cK : Try.prog.cellsOf 23 = 1 := by kernel_rfl
    obtain ⟨xs, n, rfl, rfl, hl, hx, hf⟩ := DataW.trod_struct Try.underlying25 h
    rw [cT] at hl
    obtain ⟨v0, v1, v2, v3, rfl⟩ := four hl
    have g0 : DataW.trod enc Try.prog w base spare held n 22 ((List.drop 0 [v0, v1, v2, v3]).take (Try.prog.cellsOf 22)) = xs[0]? := hf 0 _ rfl
    have g1 : DataW.trod enc Try.prog w base spare held n 9 ((List.drop 1 [v0, v1, v2, v3]).take (Try.prog.cellsOf 9)) = xs[1]? := hf 1 _ rfl
    have g2 : DataW.trod enc Try.prog w base spare held n 3 ((List.drop 2 [v0, v1, v2, v3]).take (Try.prog.cellsOf 3)) = xs[2]? := hf 2 _ rfl
    have g3 : DataW.trod enc Try.prog w base spare held n 23 ((List.drop 3 [v0, v1, v2, v3]).take (Try.prog.cellsOf 23)) = xs[3]? := hf 3 _ rfl
    rw [c8] at g0
    rw [cS] at g1
    rw [c64] at g2
    rw [cK] at g3
    have hs : xs.length = 4 := hx
    rw [List.getElem?_eq_getElem (by omega)] at g0 g1 g2 g3
    obtain ⟨a0, e0, _, w0⟩ := DataW.trod_int Try.underlying22 g0
    obtain ⟨a1, e1, _, w1⟩ := DataW.trod_string Try.underlying9 g1
    obtain ⟨a2, e2, _, w2⟩ := DataW.trod_int Try.underlying3 g2
    have e0' : v0 = .int .u8 a0 := by simpa using e0
    have e1' : v1 = .string a1 := by simpa using e1
    have e2' : v2 = .int .i64 a2 := by simpa using e2
    subst e0' e1' e2'
    have b0 : 0 ≤ a0 ∧ a0 ≤ 255 := by simpa [Lit.wf, IntKind.min, IntKind.max, IntKind.signed, IntKind.bits] using w0
    have b2 : -9223372036854775808 ≤ a2 ∧ a2 ≤ 9223372036854775807 := by simpa [Lit.wf, IntKind.min, IntKind.max, IntKind.signed, IntKind.bits] using w2
    have hok : Hd.ok ⟨a0, a1, a2⟩ := ⟨b0.1, b0.2, w1, b2.1, b2.2⟩
    have hm : xs[3].1 ∈ xs.map (·.1) := List.mem_map.2 ⟨xs[3], List.getElem_mem _, rfl⟩
    have hbm := bulk_mem hm
    have hbulk : Rows.uptoBulk (DataW.agg (xs.map (·.1))) = Rows.uptoBulkAll (xs.map (·.1)) + 1 := by simp only [Rows.uptoBulk]
    rcases DataW.trod_slice Try.underlying23 g3 with ⟨hc, hd⟩ | ⟨a, len, cap, elems, rest, n', rfl, hc, hd, _, hlc, hcm, hel, hx3, _⟩
    · have e3 : v3 = .slice none 0 0 := by simpa using hc
      subst e3
      refine ⟨⟨a0, a1, a2⟩, .nil, none, 0, rfl, hok, trivial, ⟨Nat.le_refl _, by unfold maxLen; omega, fun h0 => by simp [Fo.len] at h0⟩, ?_⟩
      rw [hbulk]; simp only [Fo.size]; omega
    · have e3 : v3 = .slice (some a) len cap := by simpa using hc
      subst e3
      rw [hd] at hbm
      simp only [Rows.uptoBulk] at hbm
      rw [cT] at hx3
      have hk : ∀ i (hi : i < elems.length), ∃ cs, TyOpen w cs elems[i].1 ∧ ∀ j, j < 4 → w.cell? ((a.add (i * 4)).add j) = cs[j]? := by
        intro i hi
        have := hx3 i (by omega)
        rw [List.getElem?_eq_getElem hi] at this
        obtain ⟨cs', hc1, hc2⟩ := Option.bind_eq_some_iff.1 this
        exact ⟨cs', ih n' (by omega) cs' _ hc2, (World.cells?_some hc1).2.2⟩
      by_cases h0 : len = 0
      · subst h0
        refine ⟨⟨a0, a1, a2⟩, .nil, some a, cap, rfl, hok, trivial, ⟨Nat.zero_le _, hcm, fun h0 => by simp [Fo.len] at h0⟩, ?_⟩
        rw [hbulk]; simp only [Fo.size]; omega
      · obtain ⟨b, off, rfl⟩ : ∃ b off, a = ⟨b, off, none⟩ := by
          obtain ⟨cs', ⟨h', k', q', cap', rfl, _⟩, hc'⟩ := hk 0 (by omega)
          have := hc' 0 (by omega)
          simp [Addr.add] at this
          exact addr_plain this
        obtain ⟨f, f1, f2, f3, f4⟩ := kids_open (elems.map (·.1)) b off (fun i hi => by
          rw [List.length_map] at hi
          obtain ⟨cs', t, c⟩ := hk i hi
          refine ⟨cs', by simpa using t, fun j hj => ?_⟩
          have := c j hj
          rw [Addr.add_lit, Addr.add_lit] at this
          exact this)
        rw [List.length_map, hel] at f1
        refine ⟨⟨a0, a1, a2⟩, f, some ⟨b, off, none⟩, cap, by rw [f1], hok, f2, ⟨by omega, hcm, fun _ => ⟨b, off, rfl, f3⟩⟩, ?_⟩
        rw [hbulk]; omega
end

end Go.Proofs.Ytcjhgefkbnbmnaa

namespace Go.Proofs.Ytcjhgefkbnbmnaa
open Go.RowKit Go.Shelf LM
set_option linter.unusedVariables false
attribute [local go_sem] Oper.semAt_some

/-- A slice that reads as these fields. -/
structure FdSl (w : World) (a : Option Addr) (cap : Nat) (fs : List Fld) : Prop where
  lc : fs.length ≤ cap
  cm : cap ≤ maxLen
  at_ : 0 < fs.length → ∃ b o, a = some ⟨b, o, none⟩ ∧ b < w.heap.size ∧ ∀ i, (h : i < fs.length) → w.cell? ⟨b, o + i * 5, none⟩ = some (.string fs[i].name) ∧ w.cell? ⟨b, o + i * 5 + 1, none⟩ = some (.int .u8 fs[i].h.op) ∧
    w.cell? ⟨b, o + i * 5 + 2, none⟩ = some (.string fs[i].h.name) ∧ w.cell? ⟨b, o + i * 5 + 3, none⟩ = some (.int .i64 fs[i].h.n) ∧ w.cell? ⟨b, o + i * 5 + 4, none⟩ = some (.slice fs[i].q fs[i].k.len fs[i].cap)
theorem FdSl.below {w w' : World} (hb : Below w.heap.size w w') {a : Option Addr} {cap : Nat} {fs : List Fld} (h : FdSl w a cap fs) : FdSl w' a cap fs :=
  ⟨h.lc, h.cm, fun h0 => by
    obtain ⟨b, o, e, hlt, hc⟩ := h.at_ h0
    have k : ∀ x, w'.cell? ⟨b, x, none⟩ = w.cell? ⟨b, x, none⟩ := fun x => hb.cell (p := ⟨b, x, none⟩) hlt
    exact ⟨b, o, e, Nat.lt_of_lt_of_le hlt hb.size, fun i hi => by simp only [k]; exact hc i hi⟩⟩
theorem FlAt.sl {W : World} {B g cap : Nat} {fs : List Fld} (h : FlAt W B g cap fs) : FdSl W (some ⟨g, 0, none⟩) cap fs := by
  obtain ⟨cur, _, _, hc, hm, _⟩ := h.parts
  exact ⟨hc, hm, fun _ => ⟨g, 0, rfl, h.lt, fun i hi => by rw [Nat.zero_add]; exact h.cells hi⟩⟩
theorem own_fdSl {W : World} {B : Nat} {v : Value} {fs : List Fld} (h : W.ownsRow B 40 5 v fs.length (fldCells fs)) : ∃ a cap, v = .slice a fs.length cap ∧ FdSl W a cap fs := by
  rcases h.2 with ⟨rfl, h0⟩ | ⟨g, cap, cur, rfl, _, _, hc, hm, _⟩
  · exact ⟨none, 0, by rw [h0], by omega, Nat.zero_le _, fun h1 => by omega⟩
  · exact ⟨_, cap, rfl, FlAt.sl h⟩

/-- The last k of them, from the last on, with their places. -/
def bkw (fs : List Fld) (k : Nat) : List (Nat × Fld) := (List.range k).map fun j => (fs.length - 1 - j, fs.getD (fs.length - 1 - j) default)
def encB (x : Nat × Fld) : Array Value := #[Value.int .i64 (x.1 : Int), .agg #[.string x.2.name, .int .u8 x.2.h.op, .string x.2.h.name, .int .i64 x.2.h.n, .slice x.2.q x.2.k.len x.2.cap]]

/-- What the iterator reads between two rounds lies as it lay. -/
def KpB (Bs : Nat) (q : Option Addr) (len : Nat) (A B : World) : Prop := B.heap[Bs]? = A.heap[Bs]? ∧ ∀ b o, q = some ⟨b, o, none⟩ → 0 < len → B.heap[b]? = A.heap[b]?
/-! ### Rows that are made -/
/-- The row of these fields and this tail, plainly. -/
def rowT (t : Hd × Fo) : List (ByteArray × Hd × Fo) → Hd × Fo
  | [] => t
  | (nm, h, k) :: r => (⟨11, nm, 0⟩, .cons h k (.cons (rowT t r).1 (rowT t r).2 .nil))
/-- The row's own arrays, one a field. -/
inductive JCh (w : World) (th : Hd) (tk : Fo) (tq : Option Addr) (tc : Nat) : List Fld → Hd → Fo → Option Addr → Nat → List Nat → Prop
  | nil : JCh w th tk tq tc [] th tk tq tc []
  | cons {f : Fld} {fs : List Fld} {h : Hd} {k : Fo} {q : Option Addr} {c : Nat} {bs : List Nat} {b : Nat} (next : JCh w th tk tq tc fs h k q c bs) (hc : k.len ≤ c ∧ c ≤ maxLen)
      (hb : w.heap[b]? = some (.cells #[.int .u8 f.h.op, .string f.h.name, .int .i64 f.h.n, .slice f.q f.k.len f.cap, .int .u8 h.op, .string h.name, .int .i64 h.n, .slice q k.len c] 25 (0, 0))) :
      JCh w th tk tq tc (f :: fs) ⟨11, f.name, 0⟩ (.cons f.h f.k (.cons h k .nil)) (some ⟨b, 0, none⟩) 2 (b :: bs)
/-- What join answers. -/
def JnPost (w : World) (fs : List Fld) (th : Hd) (tk : Fo) (tq : Option Addr) (tc : Nat) (e : Ending) (w' : World) : Prop :=
  ∃ h k q c bs, e = .returned (.agg #[.int .u8 h.op, .string h.name, .int .i64 h.n, .slice q k.len c]) ∧ JCh w' th tk tq tc fs h k q c bs ∧ bs.Nodup ∧ (∀ b ∈ bs, w.heap.size ≤ b ∧ b < w'.heap.size) ∧ Below w.heap.size w w'
end Go.Proofs.Ytcjhgefkbnbmnaa

/- join. -/
namespace Go.Proofs.Ytcjhgefkbnbmnaa
open Go.RowKit Go.Shelf LM
set_option linter.unusedVariables false
attribute [local go_sem] Oper.semAt_some

/-- While the fields are gone through from the last on. -/
def JnI (w : World) (th : Hd) (tk : Fo) (tq : Option Addr) (tc : Nat) (pre : List (Nat × Fld)) (W : World) : Prop :=
  ∃ h k q c bs, W.heap[w.heap.size]? = some (.cells #[.int .u8 h.op, .string h.name, .int .i64 h.n, .slice q k.len c] 25 (0, 0)) ∧ W.heap[w.heap.size + 1]? = some (.cells #[.int .u8 0, .string ⟨#[]⟩, .int .i64 0, .slice none 0 0] 25 (0, 0)) ∧
    JCh W th tk tq tc ((pre.map (·.2)).reverse) h k q c bs ∧ (k.len ≤ c ∧ c ≤ maxLen) ∧ bs.Nodup ∧ (∀ b ∈ bs, w.heap.size + 3 ≤ b ∧ b < W.heap.size) ∧ Below w.heap.size w W ∧ w.heap.size + 3 ≤ W.heap.size

end Go.Proofs.Ytcjhgefkbnbmnaa

/- Join, the document's Of. -/
namespace Go.Proofs.Ytcjhgefkbnbmnaa
open Go.RowKit LM
set_option linter.unusedVariables false

/-- A field, plainly. -/
def Fld.key (f : Fld) : ByteArray × Hd × Fo := (f.name, f.h, f.k)
theorem rowT_size (t : Hd × Fo) : ∀ (l : List (ByteArray × Hd × Fo)), (rowT t l).2.size = t.2.size + (l.map fun x => x.2.2.size + 2).sum
  | [] => by simp [rowT]
  | (nm, h, k) :: r => by simp only [rowT, Fo.size, rowT_size t r, List.map_cons, List.sum_cons]; omega

theorem Field_at (name : ByteArray) (h0 : Hd) (k0 : Fo) (q0 : Option Addr) (cap0 : Nat) (h1 : Hd) (k1 : Fo) (q1 : Option Addr) (cap1 : Nat) (w : World) :
    Calls Try.prog 50 #[.string name, .agg #[.int .u8 h0.op, .string h0.name, .int .i64 h0.n, .slice q0 k0.len cap0], .agg #[.int .u8 h1.op, .string h1.name, .int .i64 h1.n, .slice q1 k1.len cap1]] w fun e w' =>
      ∃ g, e = .returned (.agg #[.int .u8 11, .string name, .int .i64 0, .slice (some ⟨g, 0, none⟩) 2 2]) ∧ w.heap.size ≤ g ∧ w'.heap[g]? = some (.cells #[.int .u8 h0.op, .string h0.name, .int .i64 h0.n, .slice q0 k0.len cap0, .int .u8 h1.op, .string h1.name, .int .i64 h1.n, .slice q1 k1.len cap1] 25 (0, 0)) ∧ Below w.heap.size w w' := by
  go_enter Try.func50, Try.ntmps50
  go_wp2
  refine bodyPost_ret (v := .agg #[.int .u8 11, .string name, .int .i64 0, .slice (some ⟨w.heap.size + 1 + 1 + 1, 0, none⟩) 2 2]) (by simp [results, Try.results50, go_sem]) rfl ⟨_, rfl, by omega, ?_, ?_⟩
  · have := World.alloc_heap_new (((w.alloc (.cells #[.int .u8 h0.op, .string h0.name, .int .i64 h0.n, .slice q0 k0.len cap0] 25)).alloc (.cells #[.int .u8 h1.op, .string h1.name, .int .i64 h1.n, .slice q1 k1.len cap1] 25)).alloc (.cells #[.int .u8 11, .string name, .int .i64 0, .slice (some ⟨w.heap.size + 1 + 1 + 1, 0, none⟩) 2 2] 25)) (.cells #[.int .u8 h0.op, .string h0.name, .int .i64 h0.n, .slice q0 k0.len cap0, .int .u8 h1.op, .string h1.name, .int .i64 h1.n, .slice q1 k1.len cap1] 25)
    simpa only [World.size_alloc] using this
  · exact ((((Below.refl _ _).alloc (Nat.le_refl _) _).alloc (by simp) _).alloc (by simp; omega) _).alloc (by simp; omega) _

/-- A tree in what lay at first and in blocks from n on: told by what agrees there. -/
def AgF (N n : Nat) (wr : World) (q : Option Addr) (c : Nat) (k : Fo) : Prop := ∀ w'' : World, (∀ b, (b < N ∨ n ≤ b) → b < wr.heap.size → w''.heap[b]? = wr.heap[b]?) → SlF w'' q c k
end Go.Proofs.Ytcjhgefkbnbmnaa

/- Flat of what is no row; SameFields. -/
namespace Go.Proofs.Ytcjhgefkbnbmnaa
open Go.RowKit LM
set_option linter.unusedVariables false

end Go.Proofs.Ytcjhgefkbnbmnaa

/- The document's Fields. -/
namespace Go.Proofs.Ytcjhgefkbnbmnaa
open Go.RowKit LM
set_option linter.unusedVariables false

/-- One more of those that are gone through: the new one is put ahead of the first that is greater. -/
def stp (f : Fld) (s : List Fld × Bool) (y : Fld) : List Fld × Bool := if !s.2 && ltF f y then (s.1 ++ [f] ++ [y], true) else (s.1 ++ [y], s.2)
def stps (f : Fld) (os : List Fld) : List Fld × Bool := os.foldl (stp f) ([], false)
/-- Behind all. -/
def finS (f : Fld) (s : List Fld × Bool) : List Fld := if s.2 then s.1 else s.1 ++ [f]
theorem stps_snoc (f : Fld) (os : List Fld) (y : Fld) : stps f (os ++ [y]) = stp f (stps f os) y := by simp [stps, List.foldl_append]
theorem fin_true (f : Fld) : ∀ (os A : List Fld), os.foldl (stp f) (A, true) = (A ++ os, true)
  | [], A => by simp
  | y :: os, A => by rw [List.foldl_cons, stp]; simp only [Bool.not_true, Bool.false_and, Bool.false_eq_true, if_false]; rw [fin_true f os]; simp
theorem fin_from (f : Fld) : ∀ (os A : List Fld), finS f (os.foldl (stp f) (A, false)) = A ++ ins ltF f os
  | [], A => by simp [finS, ins]
  | y :: os, A => by
    rw [List.foldl_cons, stp, ins]
    cases h : ltF f y with
    | true => simp only [Bool.not_false, Bool.true_and, if_true]; rw [fin_true]; simp [finS]
    | false => simp only [Bool.not_false, Bool.true_and, Bool.false_eq_true, if_false]; rw [fin_from f os]; simp
theorem fin_all (f : Fld) (os : List Fld) : finS f (stps f os) = ins ltF f os := by
  have := fin_from f os []
  simpa [stps] using this
theorem stps_len (f : Fld) (os : List Fld) : (stps f os).1.length ≤ os.length + 1 := by
  have : ∀ (os A : List Fld) (b : Bool), (os.foldl (stp f) (A, b)).1.length ≤ A.length + os.length + (if b then 0 else 1) := by
    intro os
    induction os with
    | nil => intro A b; simp
    | cons y os ih =>
      intro A b
      rw [List.foldl_cons, stp]
      split
      · rename_i h
        have := ih (A ++ [f] ++ [y]) true
        simp at h
        have hb : b = false := h.1
        subst hb
        simp at this ⊢; omega
      · have := ih (A ++ [y]) b
        simp at this ⊢; omega
  have := this os [] false
  simpa [stps] using this

theorem bl_lt : ∀ a b : List UInt8, Op.bytesLess a b = decide (a < b)
  | _, [] => by unfold Op.bytesLess; simp
  | [], _ :: _ => by unfold Op.bytesLess; simp
  | a :: x, b :: y => by
    rw [Op.bytesLess, bl_lt x y]
    rw [Bool.eq_iff_iff]
    simp [List.cons_lt_cons_iff]
theorem bl_eq (f y : Fld) : Op.bytesLess f.name.toList y.name.toList = ltF f y := by
  rw [bl_lt, Bool.eq_iff_iff, ltF_iff, ByteArray.toList_eq, ByteArray.toList_eq, decide_eq_true_iff]
/-- What Fields keeps while it goes on. -/
structure RfI (w : World) (fs pre rest : List Fld) (h : Hd) (k : Fo) (q : Option Addr) (cap : Nat) (th : Hd) (tk : Fo) (tq : Option Addr) (tc : Nat) (v : Value) (wr : World) : Prop where
  eq : fs = pre ++ rest
  own : wr.ownsRow (w.heap.size + 2) 40 5 v pre.length (fldCells (srt ltF pre))
  ch : RowCh w h k q cap rest th tk tq tc
  box : wr.heap[w.heap.size]? = some (.cells #[.int .u8 h.op, .string h.name, .int .i64 h.n, .slice q k.len cap] 25 (0, 0))
  res : wr.heap[w.heap.size + 1]? = some (.cells #[.int .u8 0, .string ⟨#[]⟩, .int .i64 0, .slice none 0 0] 25 (0, 0))
  below : Below w.heap.size w wr
  room : w.heap.size + 2 ≤ wr.heap.size

theorem bdx {n : Nat} (h : n ≤ 1099511627780) : n ≤ maxLen ∧ n * 72 ≤ 140737488355328 := ⟨by unfold maxLen; omega, by omega⟩
theorem enc_new (wr : World) (nq : Nat) (y : Fld) : ∀ j u, y.enc[j]? = some u → ((wr.drewN nq).alloc (.cells y.enc.toArray 40)).cell? ((⟨wr.heap.size, 0, none⟩ : Addr).add j) = some u := by
  have h := cells_new (wr.drewN nq) y.enc 40
  have e : (wr.drewN nq).heap.size = wr.heap.size := by simp
  rw [e] at h
  exact h
theorem rf_own {wr : World} {B : Nat} {v : Value} {n : Nat} {xs : List Value} (h : wr.ownsRow B 40 5 v n xs) (nq : Nat) (o : Obj) : ((wr.drewN nq).alloc o).ownsRow B 40 5 v n xs :=
  World.ownsRow.alloc (own_grown h (below_drewN (Below.refl _ _) nq)) o
theorem rf_below {wi wr w1 : World} {v : Value} {n : Nat} {xs : List Value} (h : wr.ownsRow wi.heap.size 40 5 v n xs) (hb : Below wi.heap.size wi wr) (nq : Nat) (o : Obj) (hg : ((wr.drewN nq).alloc o).grownBy w1 v.ownBlock) : Below wi.heap.size wi w1 := by
  have h1 : Below wi.heap.size wi ((wr.drewN nq).alloc o) := (below_drewN hb nq).alloc (by have := hb.size; simp; omega) o
  exact h1.grown hg (by have := hb.size; simp; omega) (fun r e => (h.lt r e).1)
theorem rf_size {wi wr : World} (hb : wi.heap.size ≤ wr.heap.size) (nq : Nat) (o : Obj) : wi.heap.size ≤ ((wr.drewN nq).alloc o).heap.size := by simp; omega
theorem rf_below2 {wi w1 w2 : World} {v : Value} {n : Nat} {xs : List Value} (h : w1.ownsRow wi.heap.size 40 5 v n xs) (hb : Below wi.heap.size wi w1) (o : Obj) (hg : (w1.alloc o).grownBy w2 v.ownBlock) : Below wi.heap.size wi w2 :=
  (hb.alloc hb.size o).grown hg (by have := hb.size; simp; omega) (fun r e => (h.lt r e).1)
theorem rf_size2 {wi w1 : World} (hb : wi.heap.size ≤ w1.heap.size) (o : Obj) : wi.heap.size ≤ (w1.alloc o).heap.size := by simp; omega
theorem own_val {w : World} {base : Nat} {e : TypeId} {size : Nat} {v : Value} {n : Nat} {xs : List Value} (h : w.ownsRow base e size v n xs) : ∃ a cap, v = .slice a n cap := by
  rcases h.2 with ⟨rfl, h0⟩ | ⟨g, cap, cur, rfl, _⟩
  · exact ⟨none, 0, by rw [h0]⟩
  · exact ⟨_, cap, rfl⟩

set_option maxRecDepth 100000 in
set_option maxHeartbeats 400000 in
theorem Fields_any (h : Hd) (k : Fo) (q : Option Addr) (cap : Nat) (w : World) (fs : List Fld) (th : Hd) (tk : Fo) (tq : Option Addr) (tc : Nat) (hc : RowCh w h k q cap fs th tk tq tc) (hl : fs.length ≤ 1099511627776) :
    Calls Try.prog 66 #[.agg #[.int .u8 h.op, .string h.name, .int .i64 h.n, .slice q k.len cap]] w (FlatPost w fs th tk tq tc) := by
  have HC := Lib.hid hc
  obtain ⟨i0, hi, hz0, hz1, hz2⟩ := info_parts info37
  clear hc
  have hs : RfI w fs [] fs h k q cap th tk tq tc (.slice none 0 0) ((w.alloc (.cells #[.int .u8 h.op, .string h.name, .int .i64 h.n, .slice q k.len cap] 25)).alloc (.cells #[.int .u8 0, .string ⟨#[]⟩, .int .i64 0, .slice none 0 0] 25)) := by
    have e1 := World.alloc_heap_new w (.cells #[.int .u8 h.op, .string h.name, .int .i64 h.n, .slice q k.len cap] 25)
    have e2 := World.alloc_heap_new (w.alloc (.cells #[.int .u8 h.op, .string h.name, .int .i64 h.n, .slice q k.len cap] 25)) (.cells #[.int .u8 0, .string ⟨#[]⟩, .int .i64 0, .slice none 0 0] 25)
    rw [World.size_alloc] at e2
    exact ⟨rfl, World.ownsRow_nil _ _ _ _, HC.out, ((below_box _ _).block _ (by simp)).trans e1, e2, ((Below.refl _ _).alloc (Nat.le_refl _) _).alloc (by simp) _, by simp⟩
  have HS := Lib.hid hs
  clear hs
  go_enter Try.func66, Try.ntmps66
  go_wp2
  go_loopg [4] fs.length (fun g v wr => ∃ pre rest h1 k1 q1 cap1, g = rest.length ∧ RfI w fs pre rest h1 k1 q1 cap1 th tk tq tc v wr)
  case atStart => exact ⟨[], fs, h, k, q, cap, rfl, HS.out⟩
  case round =>
    obtain ⟨pre, rest, h1, k1, q1, cap1, hg, hI⟩ := hrel
    have hch := hI.ch
    cases hch with
    | stop hop hsl =>
      have hop' : (th.op == 11) = false := by simpa using hop
      obtain ⟨r0, r1, r2, r3, _⟩ := row4 hI.box
      have hpre : pre = fs := by have := hI.eq; simpa using this.symm
      subst hpre
      obtain ⟨y0, y1, y2, y3, z0, z1, z2, z3⟩ := row4 hI.res
      have HI := Lib.hid hI
      clear hI hop
      go_wp2_with fail
      go_region
      all_goals
        go_wp2
        have hg := set4_grown wr (w.heap.size + 1) (.int .u8 th.op) (.string th.name) (.int .i64 th.n) (.slice tq tk.len tc)
        have hbk : ∀ r, u4.ownBlock = some r → w.heap.size + 2 ≤ r := fun r e => (HI.out.own.lt r e).1
        refine bodyPost_ret (v := .tuple #[u4, .agg #[.int .u8 th.op, .string th.name, .int .i64 th.n, .slice tq tk.len tc]]) (by simp [results, Try.results66, go_sem, y0, y1, y2, y3]) rfl ⟨u4, rfl, ?_, ?_⟩
        · rw [insF_srt]
          refine own_base (World.ownsRow.drew (HI.out.own.kept hg ?_)) (by omega)
          rcases hv : u4.ownBlock with _ | r
          · exact .inl rfl
          · right; intro e; have := hbk r hv; have := Option.some.inj e; omega
        · have hb3 := HI.out.below.grown hg HI.out.below.size (fun r e => by have := Option.some.inj e; omega)
          exact hb3.trans ((Below.refl _ _).drew)
    | @step _ h0 h2 _ k0 k2 r _ q0 q2 _ b o _ cap0 cap2 _ fs2 hop hcap a0 a1 s0 s1 next =>
      have hop' : (h1.op == 11) = true := by simp [hop]
      have hL : 2 ≤ (Fo.cons h0 k0 (.cons h2 k2 r)).len := by simp [Fo.len]
      have hbox := hI.box
      generalize hLe : (Fo.cons h0 k0 (.cons h2 k2 r)).len = L at *
      obtain ⟨r0, r1, r2, r3, z0, z1, z2, z3⟩ := row4 hbox
      have hL0 : 0 < L := by omega
      have hL1 : 1 < L := by omega
      have hcm := hcap.2
      unfold maxLen at hcm
      have hlc := hcap.1
      have d0 := (a0.same (hI.below.block _ a0.lt)).c0
      have d1 := (a0.same (hI.below.block _ a0.lt)).c1
      have d2 := (a0.same (hI.below.block _ a0.lt)).c2
      have d3 := (a0.same (hI.below.block _ a0.lt)).c3
      have hpl : pre.length + 1 ≤ 1099511627776 := by have := congrArg List.length hI.eq; simp at this; omega
      obtain ⟨ao, co, hu4, hfd⟩ := own_fdSl (fs := srt ltF pre) (by rw [length_srt]; exact hI.own)
      rw [length_srt] at hu4
      subst hu4
      have hwz : w.heap.size < wr.heap.size := by have := hI.room; omega
      have hbz : b < wr.heap.size := Nat.lt_of_lt_of_le a0.lt hI.below.size
      have HLE := Lib.hid hLe
      have HI := Lib.hid hI
      have HN := Lib.hid next
      have HA0 := Lib.hid a0
      have HA1 := Lib.hid a1
      rw [hop] at r0
      clear hI hop hop' next a0 a1 s0 s1 hbox
      go_wp2
      go_big_region
      go_wp2_with fail
      obtain ⟨wi, hwi⟩ : ∃ wi, wi = (wr.alloc (.cells #[.string h1.name, .int .u8 h0.op, .string h0.name, .int .i64 h0.n, .slice q0 k0.len cap0] 40)).drew := ⟨_, rfl⟩
      rw [← hwi]
      obtain ⟨f, hfe⟩ : ∃ f : Fld, f = ⟨h1.name, h0, q0, k0, cap0⟩ := ⟨_, rfl⟩
      have hbi : Below wr.heap.size wr wi := by rw [hwi]; exact (below_box _ _).drew
      have hfb : wi.heap[wr.heap.size]? = some (.cells #[.string f.name, .int .u8 f.h.op, .string f.h.name, .int .i64 f.h.n, .slice f.q f.k.len f.cap] 40 (0, 0)) := by rw [hwi, hfe]; exact World.alloc_heap_new wr _
      have hfi : wr.heap.size < wi.heap.size := (Array.getElem?_eq_some_iff.1 hfb).1
      have HBI := Lib.hid hbi
      have HFB := Lib.hid hfb
      have HFE := Lib.hid hfe
      have HFD := Lib.hid (hfd.below hbi)
      have hos : (srt ltF pre).length = pre.length := length_srt _
      have HOS := Lib.hid hos
      obtain ⟨os, hose⟩ : ∃ os, os = srt ltF pre := ⟨_, rfl⟩
      rw [← hose] at HFD HOS
      have HOE := Lib.hid hose
      obtain ⟨M, hM⟩ : ∃ M, pre.length = M := ⟨_, rfl⟩
      rw [hM] at HOS hpl ⊢
      have HM := Lib.hid hM
      clear hwi hfe hbi hfb hfd hos hose hM r0 r1 r2 r3 z0 z1 z2 z3 d0 d1 d2 d3
      obtain ⟨wo, rfl⟩ : ∃ wo : World, wo = wr := ⟨_, rfl⟩
      go_loopw [6, 7, 8] (fun v6 v7 v8 wx => ∃ (i : Nat) (st : List Fld × Bool), v8 = .int .i64 i ∧ i ≤ M ∧ v7 = .bool st.2 ∧ Hid (stps f (os.take i) = st) ∧ wx.ownsRow wi.heap.size 40 5 v6 st.1.length (fldCells st.1) ∧ Below wi.heap.size wi wx) (fun _ _ v8 _ => M - (intOf v8).toNat)
      case atStart => exact ⟨0, ([], false), rfl, Nat.zero_le _, rfl, Lib.hid rfl, World.ownsRow_nil _ _ _ _, Below.refl _ _⟩
      case round =>
        obtain ⟨i, ⟨acc, inn⟩, rfl, hiM, rfl, HST, hown, hbx⟩ := hrel
        simp only at hown
        have hal : acc.length ≤ i + 1 := by
          have := stps_len f (os.take i)
          rw [HST.out] at this; simp at this; omega
        obtain ⟨an, cn, rfl⟩ := own_val hown
        have HOW := Lib.hid hown
        have HBX := Lib.hid hbx
        clear hown hbx
        by_cases hlt : i < M
        · have hio : i < os.length := by rw [HOS.out]; exact hlt
          obtain ⟨bo, oo, rfl, hbo, hco⟩ := HFD.out.at_ (by omega)
          have hci := hco i hio
          have kc : ∀ x, wr.cell? ⟨bo, x, none⟩ = wi.cell? ⟨bo, x, none⟩ := fun x => HBX.out.cell (p := ⟨bo, x, none⟩) hbo
          obtain ⟨c0, c1, c2, c3, c4⟩ := hci
          rw [← kc] at c0 c1 c2 c3 c4
          have HCI := Lib.hid (hco i hio)
          have hstep : stps f (os.take (i + 1)) = stp f (acc, inn) os[i] := by rw [List.take_succ_eq_append_getElem hio, stps_snoc, HST.out]
          have HSTEP := Lib.hid hstep
          clear hco hstep kc
          generalize os[i] = y at *
          have hfx := (HBX.out.block _ hfi).trans HFB.out
          have f0 : wr.cell? ⟨wo.heap.size, 0, none⟩ = some (.string f.name) := by simp [World.cell?, hfx]
          have f1 : wr.cell? ⟨wo.heap.size, 1, none⟩ = some (.int .u8 f.h.op) := by simp [World.cell?, hfx]
          have f2 : wr.cell? ⟨wo.heap.size, 2, none⟩ = some (.string f.h.name) := by simp [World.cell?, hfx]
          have f3 : wr.cell? ⟨wo.heap.size, 3, none⟩ = some (.int .i64 f.h.n) := by simp [World.cell?, hfx]
          have f4 : wr.cell? ⟨wo.heap.size, 4, none⟩ = some (.slice f.q f.k.len f.cap) := by simp [World.cell?, hfx]
          have iz : (i : Int) < (M : Int) := by omega
          have iz0 : (0 : Int) ≤ (i : Int) := by omega
          have hwx : wi.heap.size ≤ wr.heap.size := HBX.out.size
          have hfw : wo.heap.size < wr.heap.size := by omega
          have HBD1 := Lib.hid (bdx (n := acc.length + 1) (by omega))
          have HBD2 := Lib.hid (bdx (n := acc.length + 1 + 1) (by omega))
          clear hfx
          cases inn with
          | true =>
            have hs2 : stp f (acc, true) y = (acc ++ [y], true) := by simp [stp]
            have HS2 := Lib.hid hs2
            clear hs2
            go_wp2
            go_quiet (fail)
            go_wp2_with (at_builtin; go_loud (refine wpList_append_own _ rfl (.tmp 41) (.tmp 46) 36 rfl wi.heap.size 40 i0 _ 5 72 Try.underlying36 hi hz0 hz1 hz2 rfl (by decide) _ _ _ rfl (rf_own HOW.out nq _) ⟨wr.heap.size, 0, none⟩ 1 1 (Fld.enc y) rfl rfl (enc_new wr nq y) (fld_one _) HBD1.out.1 HBD1.out.2 (rf_size hwx nq _) ?_); intro v' w1 hown2 hgrow _; obtain ⟨a5, cp5, rfl⟩ := own_val hown2; have HB1 := Lib.hid (rf_below HOW.out HBX.out nq _ hgrow); have HOW2 := Lib.hid hown2; clear hown2 hgrow)
            go_roundw
            case rel => exact ⟨i + 1, (acc ++ [y], true), by go_num, by omega, rfl, Lib.hid (by rw [HSTEP.out, HS2.out]), by have := HOW2.out; rw [← fldCells_snoc] at this; simpa using this, HB1.out⟩
            case measure => simp [intOf]; omega
          | false =>
            have hbl := bl_eq f y
            cases hlf : ltF f y with
            | true =>
              have hbl2 : Op.bytesLess f.name.toList y.name.toList = true := by rw [hbl, hlf]
              have hs2 : stp f (acc, false) y = (acc ++ [f] ++ [y], true) := by simp [stp, hlf]
              have HS2 := Lib.hid hs2
              clear hs2 hbl hlf
              go_wp2
              go_quiet (fail)
              go_wp2_with (first | (at_builtin; refine wpList_append_own _ rfl (.tmp 37) (.tmp 39) 36 rfl wi.heap.size 40 i0 _ 5 72 Try.underlying36 hi hz0 hz1 hz2 rfl (by decide) _ _ _ rfl (rf_own HOW.out nq _) ⟨wr.heap.size, 0, none⟩ 1 1 (Fld.enc f) rfl rfl (enc_new wr nq f) (fld_one _) HBD1.out.1 HBD1.out.2 (rf_size hwx nq _) ?_; intro v' w1 hown2 hgrow _; obtain ⟨a5, cp5, rfl⟩ := own_val hown2; have hb1 := rf_below HOW.out HBX.out nq _ hgrow; have kc1 : ∀ x, w1.cell? ⟨bo, x, none⟩ = wi.cell? ⟨bo, x, none⟩ := fun x => hb1.cell (p := ⟨bo, x, none⟩) hbo; obtain ⟨e0, e1, e2, e3, e4⟩ := HCI.out; rw [← kc1] at e0 e1 e2 e3 e4; have HB1 := Lib.hid hb1; have HOW2 := Lib.hid hown2; have hwx1 := hb1.size; clear hown2 hgrow hb1 kc1 c0 c1 c2 c3 c4) | (at_builtin; refine wpList_append_own _ rfl (.tmp 41) (.tmp 46) 36 rfl wi.heap.size 40 i0 _ 5 72 Try.underlying36 hi hz0 hz1 hz2 rfl (by decide) _ _ _ rfl (World.ownsRow.alloc HOW2.out _) ⟨w1.heap.size, 0, none⟩ 1 1 (Fld.enc y) rfl rfl (cells_new w1 (Fld.enc y) 40) (fld_one _) HBD2.out.1 HBD2.out.2 (rf_size2 hwx1 _) ?_; intro v'' w2 hown3 hgrow _; obtain ⟨a6, cp6, rfl⟩ := own_val hown3; have HB2 := Lib.hid (rf_below2 HOW2.out HB1.out _ hgrow); have HOW3 := Lib.hid hown3; clear hown3 hgrow))
              go_roundw
              case rel => exact ⟨i + 1, (acc ++ [f] ++ [y], true), by go_num, by omega, rfl, Lib.hid (by rw [HSTEP.out, HS2.out]), by have := HOW3.out; rw [← fldCells_snoc, ← fldCells_snoc] at this; simpa using this, HB2.out⟩
              case measure => simp [intOf]; omega
            | false =>
              have hbl2 : Op.bytesLess f.name.toList y.name.toList = false := by rw [hbl, hlf]
              have hs2 : stp f (acc, false) y = (acc ++ [y], false) := by simp [stp, hlf]
              have HS2 := Lib.hid hs2
              clear hs2 hbl hlf
              go_wp2
              go_quiet (fail)
              go_wp2_with (at_builtin; refine wpList_append_own _ rfl (.tmp 41) (.tmp 46) 36 rfl wi.heap.size 40 i0 _ 5 72 Try.underlying36 hi hz0 hz1 hz2 rfl (by decide) _ _ _ rfl (rf_own HOW.out nq _) ⟨wr.heap.size, 0, none⟩ 1 1 (Fld.enc y) rfl rfl (enc_new wr nq y) (fld_one _) HBD1.out.1 HBD1.out.2 (rf_size hwx nq _) ?_; intro v' w1 hown2 hgrow _; obtain ⟨a5, cp5, rfl⟩ := own_val hown2; have HB1 := Lib.hid (rf_below HOW.out HBX.out nq _ hgrow); have HOW2 := Lib.hid hown2; clear hown2 hgrow)
              go_roundw
              case rel => exact ⟨i + 1, (acc ++ [y], false), by go_num, by omega, rfl, Lib.hid (by rw [HSTEP.out, HS2.out]), by have := HOW2.out; rw [← fldCells_snoc] at this; simpa using this, HB1.out⟩
              case measure => simp [intOf]; omega
        · have hie : i = M := by omega
          have hfin := fin_all f os
          have hst2 := HST.out
          rw [hie, ← HOS.out, List.take_length] at hst2
          rw [hst2] at hfin
          have HFIN := Lib.hid hfin
          have hfx := (HBX.out.block _ hfi).trans HFB.out
          have f0 : wr.cell? ⟨wo.heap.size, 0, none⟩ = some (.string f.name) := by simp [World.cell?, hfx]
          have f1 : wr.cell? ⟨wo.heap.size, 1, none⟩ = some (.int .u8 f.h.op) := by simp [World.cell?, hfx]
          have f2 : wr.cell? ⟨wo.heap.size, 2, none⟩ = some (.string f.h.name) := by simp [World.cell?, hfx]
          have f3 : wr.cell? ⟨wo.heap.size, 3, none⟩ = some (.int .i64 f.h.n) := by simp [World.cell?, hfx]
          have f4 : wr.cell? ⟨wo.heap.size, 4, none⟩ = some (.slice f.q f.k.len f.cap) := by simp [World.cell?, hfx]
          have hwx : wi.heap.size ≤ wr.heap.size := HBX.out.size
          have HBD1 := Lib.hid (bdx (n := acc.length + 1) (by omega))
          -- the row's own boxes
          have hwow : Below wo.heap.size wo wr := HBI.out.trans (HBX.out.mono (by omega))
          have hbox := (hwow.block _ hwz).trans HI.out.box
          have hres := (hwow.block _ (by have := HI.out.room; omega)).trans HI.out.res
          have hrest : ∀ (v' : Value) (w1 : World), w1.ownsRow wi.heap.size 40 5 v' (ins ltF f os).length (fldCells (ins ltF f os)) → Below wi.heap.size wi w1 →
              (∀ i, w1.cell? ⟨b, o + i, none⟩ = wo.cell? ⟨b, o + i, none⟩) ∧ w1.heap[w.heap.size]? = some (.cells #[.int .u8 h1.op, .string h1.name, .int .i64 h1.n, .slice (some ⟨b, o, none⟩) L cap1] 25 (0, 0)) ∧
              RfI w fs (pre ++ [f]) fs2 h2 k2 q2 cap2 th tk tq tc v' (World.set4 w1 w.heap.size (.int .u8 h2.op) (.string h2.name) (.int .i64 h2.n) (.slice q2 k2.len cap2)) := fun v' w1 hw1 hb1 => by
            have hroom := HI.out.room
            have hwo1 : Below wo.heap.size wo w1 := HBI.out.trans (hb1.mono (by omega))
            have hg4 := set4_grown w1 w.heap.size (.int .u8 h2.op) (.string h2.name) (.int .i64 h2.n) (.slice q2 k2.len cap2)
            have hbox1 := (hwo1.block _ hwz).trans HI.out.box
            rw [HLE.out] at hbox1
            have hsz1 := hwo1.size
            refine ⟨fun i => hwo1.cell (p := ⟨b, o + i, none⟩) hbz, hbox1, ⟨?_, ?_, HN.out, set4_row hbox1 _ _ _ _, ?_, ?_, ?_⟩⟩
            · rw [HI.out.eq, HFE.out]; simp
            · have hl := (length_ins (lt := ltF) (x := f) (l := os))
              rw [srt_snoc, ← HOE.out, List.length_append, HM.out]
              rw [hl, HOS.out] at hw1
              refine own_base (hw1.kept hg4 ?_) (by omega)
              rcases hv : v'.ownBlock with _ | r
              · exact .inl rfl
              · right; intro e; have := (hw1.lt r hv).1; have := Option.some.inj e; omega
            · exact (hg4.block _ (by omega) (fun e => by have := Option.some.inj e; omega)).trans ((hwo1.block _ (by omega)).trans HI.out.res)
            · have hb2 := HI.out.below.trans (hwo1.mono HI.out.below.size)
              exact hb2.grown hg4 hb2.size (fun r e => by have := Option.some.inj e; omega)
            · have := hg4.size; omega
          have HREST := Lib.hid hrest
          clear hst2 hfin hfx hwow hbox hres hrest hie
          have hA : ∀ (w1 : World), (∀ i, w1.cell? ⟨b, o + i, none⟩ = wo.cell? ⟨b, o + i, none⟩) → w1.cell? ⟨b, o + 4, none⟩ = some (.int .u8 h2.op) ∧ w1.cell? ⟨b, o + 4 + 1, none⟩ = some (.string h2.name) ∧ w1.cell? ⟨b, o + 4 + 2, none⟩ = some (.int .i64 h2.n) ∧ w1.cell? ⟨b, o + 4 + 3, none⟩ = some (.slice q2 k2.len cap2) := fun w1 hk => by
            have ha := HA1.out.same (HI.out.below.block _ HA1.out.lt)
            exact ⟨(hk 4).trans ha.c0, (hk 5).trans ha.c1, (hk 6).trans ha.c2, (hk 7).trans ha.c3⟩
          have HAC := Lib.hid hA
          clear hA
          cases inn with
          | true =>
            have he : acc = ins ltF f os := by have := HFIN.out; simpa [finS] using this
            obtain ⟨kc, hbx1, hrf⟩ := HREST.out _ wr (by rw [← he]; exact HOW.out) HBX.out
            obtain ⟨x0, x1, x2, x3, t0, t1, t2, t3⟩ := row4 hbx1
            obtain ⟨b0, b1, b2, b3⟩ := HAC.out wr kc
            have HRF := Lib.hid hrf
            clear kc hbx1 hrf he
            go_wp2
            go_roundg fs2.length
            case measure => simp [hg]
            case rel => exact ⟨_, fs2, h2, k2, q2, cap2, rfl, HRF.out⟩
          | false =>
            have he : acc ++ [f] = ins ltF f os := by have := HFIN.out; simpa [finS] using this
            have HE := Lib.hid he
            clear he
            go_wp2_with (at_builtin; refine wpList_append_own _ rfl (.tmp 50) (.tmp 52) 36 rfl wi.heap.size 40 i0 _ 5 72 Try.underlying36 hi hz0 hz1 hz2 rfl (by decide) _ _ _ rfl (World.ownsRow.alloc HOW.out _) ⟨wr.heap.size, 0, none⟩ 1 1 (Fld.enc f) rfl rfl (cells_new wr (Fld.enc f) 40) (fld_one _) HBD1.out.1 HBD1.out.2 (rf_size2 hwx _) ?_; intro v' w1 hown2 hgrow _; obtain ⟨a5, cp5, rfl⟩ := own_val hown2; have hb1 := rf_below2 HOW.out HBX.out _ hgrow; obtain ⟨kc, hbx1, hrf⟩ := HREST.out _ w1 (by rw [← HE.out, fldCells_snoc, List.length_append]; exact hown2) hb1; obtain ⟨x0, x1, x2, x3, t0, t1, t2, t3⟩ := row4 hbx1; obtain ⟨b0, b1, b2, b3⟩ := HAC.out w1 kc; have HRF := Lib.hid hrf; clear kc hbx1 hrf hb1 hown2 hgrow)
            go_roundg fs2.length
            case measure => simp [hg]
            case rel => exact ⟨_, fs2, h2, k2, q2, cap2, rfl, HRF.out⟩
end Go.Proofs.Ytcjhgefkbnbmnaa

/- KindsFlat: the law's walk. -/
namespace Go.Proofs.Ytcjhgefkbnbmnaa
open Go.RowKit LM
set_option linter.unusedVariables false

/-- The row's box. -/
structure Box1 (w : World) (h : Hd) (k : Fo) (q : Option Addr) (cap : Nat) (W : World) : Prop where
  b0 : W.heap[w.heap.size]? = some (.cells #[.int .u8 h.op, .string h.name, .int .i64 h.n, .slice q k.len cap] 25 (0, 0))
  below : Below w.heap.size w W
/-- The fields of an argument. -/
structure FlsIs (w : World) (q : Option Addr) (cap : Nat) (fs : List Fld) : Prop where
  sl : FdSl w q cap fs
  m : ∀ f ∈ fs, f.name.size ≤ maxLen ∧ f.h.ok ∧ f.k.ok ∧ SlF w f.q f.cap f.k ∧ 1 + f.k.size ≤ 1099511627776
  n : fs.length ≤ 1099511627776

section
variable {α β : Type} {lt : α → α → Bool} {lt' : β → β → Bool} {p : α → β}
theorem map_ins (h : ∀ x y, lt' (p x) (p y) = lt x y) (x : α) : ∀ l : List α, (ins lt x l).map p = ins lt' (p x) (l.map p)
  | [] => rfl
  | y :: l => by
    rw [ins, List.map_cons, ins, h]
    split
    · rfl
    · rw [List.map_cons, map_ins h x l]
theorem map_srt (h : ∀ x y, lt' (p x) (p y) = lt x y) (l : List α) : (srt lt l).map p = srt lt' (l.map p) := by
  have : ∀ (n : Nat) (l : List α), l.length = n → (srt lt l).map p = srt lt' (l.map p) := by
    intro n
    induction n with
    | zero => intro l hl; obtain rfl := List.length_eq_zero_iff.1 hl; rfl
    | succ n ih =>
      intro l hl
      obtain ⟨c, x, rfl⟩ : ∃ c x, l = c ++ [x] := ⟨l.dropLast, l.getLast (by intro e; rw [e] at hl; simp at hl), (List.dropLast_concat_getLast _).symm⟩
      rw [srt_snoc, List.map_append, List.map_cons, List.map_nil, srt_snoc, map_ins h, ih c (by simpa using hl)]
  exact this _ l rfl
end
theorem length_insF (fs : List Fld) : (insF fs).length = fs.length := by rw [insF_srt, length_srt]
end Go.Proofs.Ytcjhgefkbnbmnaa

/- A slice of fields among the arguments, opened. -/
namespace Go.Proofs.Ytcjhgefkbnbmnaa
open Go.ChangeShapes Go.WideShapes Go.ChangeAt Go.RowKit LM
set_option linter.unusedVariables false

theorem le_sum : ∀ {l : List Nat} {x : Nat}, x ∈ l → x ≤ l.sum
  | y :: l, x, h => by
    rcases List.mem_cons.1 h with rfl | h
    · simp
    · have := le_sum h; simp; omega
section
variable {H : Type} {enc : TypeId × Value → H} {w : World} {base : Nat} {spare : Nat → Bool} {held : Bool}

/-- What the reading of a field tells. -/
def FdOpen (w : World) (cs : List Value) (d : DataW H) : Prop :=
  ∃ f : Fld, cs = f.enc ∧ f.name.size ≤ maxLen ∧ f.h.ok ∧ f.k.ok ∧ SlF w f.q f.cap f.k ∧ f.k.size + 2 ≤ Rows.uptoBulk d
end

end Go.Proofs.Ytcjhgefkbnbmnaa

namespace Go.Proofs.Ytcjhgefkbnbmnaa
open Go.RowKit LM
set_option linter.unusedVariables false

theorem ins_perm {α : Type} {lt : α → α → Bool} (x : α) : ∀ l : List α, (ins lt x l).Perm (x :: l)
  | [] => .refl _
  | y :: l => by
    unfold ins
    split
    · exact .refl _
    · exact ((ins_perm x l).cons y).trans (.swap x y l)
theorem srt_perm {α : Type} {lt : α → α → Bool} (l : List α) : (srt lt l).Perm l := by
  have key : ∀ (l acc : List α), (l.foldl (fun acc x => ins lt x acc) acc).Perm (acc ++ l) := by
    intro l
    induction l with
    | nil => intro acc; simp
    | cons x l ih =>
      intro acc
      rw [List.foldl_cons]
      exact (ih _).trans (((ins_perm x acc).append_right l).trans List.perm_middle.symm)
  have h := key l []
  rw [List.nil_append] at h
  exact h
theorem insF_perm (fs : List Fld) : (insF fs).Perm fs := by rw [insF_srt]; exact srt_perm fs

/-- A row with its own fields in order, plainly; a type as it is. -/
def rowS (h : Hd) (k : Fo) : Hd × Fo := rowT (rowF h k).2 (srt (fun a b : ByteArray × Hd × Fo => decide (Lib.compareBytes a.1.data.toList b.1.data.toList < 0)) (rowF h k).1)
theorem insF_keys (fs : List Fld) : (insF fs).map (fun f => (f.name, f.h, f.k)) = srt (fun a b : ByteArray × Hd × Fo => decide (Lib.compareBytes a.1.data.toList b.1.data.toList < 0)) (fs.map fun f => (f.name, f.h, f.k)) := by
  rw [insF_srt]
  exact map_srt (lt' := fun a b : ByteArray × Hd × Fo => decide (Lib.compareBytes a.1.data.toList b.1.data.toList < 0)) (p := fun f : Fld => (f.name, f.h, f.k)) (fun x y => rfl) _

/-- What sorted answers: a tree of blocks of the call's own, and of those of what it was given. -/
def SdPost (w : World) (h : Hd) (k : Fo) (F : List Nat) (e : Ending) (w' : World) : Prop :=
  ∃ q' c' F', e = .returned (.agg #[.int .u8 h.op, .string h.name, .int .i64 h.n, .slice q' k.len c']) ∧ OwnF w' q' k F' ∧ F'.Nodup ∧ (∀ c ∈ F', c ∈ F ∨ (w.heap.size ≤ c ∧ c < w'.heap.size)) ∧ k.len ≤ c' ∧ c' ≤ maxLen ∧ Below w.heap.size w w'

end Go.Proofs.Ytcjhgefkbnbmnaa

/- The canonical form, plainly, and parts that are still to be brought into it. -/
namespace Go.Proofs.Ytcjhgefkbnbmnaa
open Go.RowKit LM
set_option linter.unusedVariables false

theorem rowF_size : ∀ (k : Fo) (h : Hd), (rowF h k).2.2.size + ((rowF h k).1.map fun x => x.2.2.size + 2).sum ≤ k.size
  | .nil, h => by simp [rowF]
  | .cons h0 k0 .nil, h => by simp [rowF]
  | .cons h0 k0 (.cons h1 k1 r), h => by
    unfold rowF
    split
    · have := rowF_size k1 h1
      simp only [List.map_cons, List.sum_cons, Fo.size]
      omega
    · simp
theorem rowS_size (h : Hd) (k : Fo) : (rowS h k).2.size ≤ k.size := by
  unfold rowS
  rw [rowT_size, ((srt_perm (rowF h k).1).map _).sum_nat]
  exact rowF_size k h

/-- What hangs on a part once its row is sorted. -/
def topS (h : Hd) : Fo → Fo
  | .nil => .nil
  | .cons h0 k0 r => if h.op = 5 ∨ h.op = 6 then .cons (rowS h0 k0).1 (rowS h0 k0).2 r else .cons h0 k0 r
theorem topS_size (h : Hd) (k : Fo) : (topS h k).size ≤ k.size := by
  cases k with
  | nil => exact Nat.le_refl _
  | cons h0 k0 r =>
    simp only [topS]
    split
    · have := rowS_size h0 k0; simp only [Fo.size]; omega
    · exact Nat.le_refl _
/-- Trees side by side, the rows in each sorted from the root on. -/
def canL : Fo → Fo
  | .nil => .nil
  | .cons h k r => .cons h (canL (topS h k)) (canL r)
termination_by f => f.size
decreasing_by
  all_goals simp only [Fo.size]
  · have := topS_size h k; omega
  · omega
theorem canL_nil : canL .nil = .nil := by rw [canL]
theorem canL_cons (h : Hd) (k r : Fo) : canL (.cons h k r) = .cons h (canL (topS h k)) (canL r) := by rw [canL]
theorem canL_size : ∀ (n : Nat) (f : Fo), f.size ≤ n → (canL f).size ≤ f.size
  | 0, .nil, _ => by rw [canL_nil]; exact Nat.le_refl _
  | 0, .cons h k r, hn => by simp [Fo.size] at hn
  | n + 1, .nil, _ => by rw [canL_nil]; exact Nat.le_refl _
  | n + 1, .cons h k r, hn => by
    rw [canL_cons]
    simp only [Fo.size] at hn ⊢
    have h0 := topS_size h k
    have h1 := canL_size n (topS h k) (by omega)
    have h2 := canL_size n r (by omega)
    omega
/-- The canonical form of a tree. -/
def canT (h : Hd) (k : Fo) : Hd × Fo := ((rowS h k).1, canL (topS (rowS h k).1 (rowS h k).2))
theorem canT_size (h : Hd) (k : Fo) : (canT h k).2.size ≤ k.size :=
  Nat.le_trans (canL_size _ _ (Nat.le_refl _)) (Nat.le_trans (topS_size _ _) (rowS_size h k))

/-- A part that is still to come: what hangs on it is the call's own, and its final form is told. -/
def PendK : PendT := fun w b o h kf F => ∃ k q cap, kf = canL (topS h k) ∧ k.size ≤ 1099511627776 ∧ (∃ ks, kidsL h.op = some ks ∧ k.shapes ks = true) ∧ HdAt w b o h q k.len cap ∧ OwnF w q k F
/-- Has a tree the shape of a part of this sort? -/
def sh1 (h : Hd) (k : Fo) (s : Nat) : Bool := (Fo.cons h k .nil).shapes [s]
theorem sh1_kids {h : Hd} {k : Fo} {s : Nat} (hs : sh1 h k s = true) : ∃ ks, kidsL h.op = some ks ∧ sortO h.op = s ∧ headB h = true ∧ k.shapes ks = true := by
  unfold sh1 at hs
  simp only [Fo.shapes, Bool.and_true] at hs
  cases hk : kidsL h.op with
  | none => rw [hk] at hs; cases hs
  | some ks =>
    rw [hk] at hs
    simp only [Bool.and_eq_true, decide_eq_true_eq] at hs
    exact ⟨ks, rfl, hs.1.1, hs.1.2, hs.2⟩
theorem sh1_of {h : Hd} {k : Fo} {s : Nat} {ks : List Nat} (h1 : kidsL h.op = some ks) (h2 : sortO h.op = s) (h3 : headB h = true) (h4 : k.shapes ks = true) : sh1 h k s = true := by
  unfold sh1; simp [Fo.shapes, h1, h2, h3, h4]
theorem shapes_two {h : Hd} {k r : Fo} {s : Nat} {ss : List Nat} : (Fo.cons h k r).shapes (s :: ss) = true ↔ sh1 h k s = true ∧ r.shapes ss = true := by
  rw [shapes_cons, Bool.and_eq_true]; exact Iff.rfl
theorem rowF_sh : ∀ (k : Fo) (h : Hd), sh1 h k 2 = true → (∀ x ∈ (rowF h k).1, wordL x.1.toList = true ∧ sh1 x.2.1 x.2.2 1 = true) ∧ sh1 (rowF h k).2.1 (rowF h k).2.2 2 = true
  | .nil, h, hs => ⟨(by intro x hx; cases hx), hs⟩
  | .cons h0 k0 .nil, h, hs => ⟨(by intro x hx; cases hx), hs⟩
  | .cons h0 k0 (.cons h1 k1 r), h, hs => by
    by_cases hop : h.op = 11
    · rw [rowF, if_pos hop]
      obtain ⟨ks, h1', h2', h3', h4'⟩ := sh1_kids hs
      have e : ks = [1, 2] := by rw [hop] at h1'; exact (Option.some.inj h1').symm
      subst e
      rw [shapes_two, shapes_two] at h4'
      have ih := rowF_sh k1 h1 h4'.2.1
      refine ⟨fun x hx => ?_, ih.2⟩
      rcases List.mem_cons.1 hx with rfl | h5
      · refine ⟨?_, h4'.1⟩
        simp only [headB, if_pos hop, Bool.and_eq_true] at h3'
        exact h3'.1.1
      · exact ih.1 x h5
    · rw [rowF, if_neg hop]
      exact ⟨(by intro x hx; cases hx), hs⟩
theorem rowT_sh {t : Hd × Fo} (ht : sh1 t.1 t.2 2 = true) : ∀ (l : List (ByteArray × Hd × Fo)), (∀ x ∈ l, wordL x.1.toList = true ∧ sh1 x.2.1 x.2.2 1 = true) → sh1 (rowT t l).1 (rowT t l).2 2 = true
  | [], _ => ht
  | (nm, h, k) :: r, hl => by
    have h0 := hl (nm, h, k) (by simp)
    have h1 := rowT_sh ht r (fun x hx => hl x (by simp [hx]))
    refine sh1_of (ks := [1, 2]) rfl rfl ?_ ?_
    · have h00 : wordL nm.toList = true := h0.1
      have : headB ⟨11, nm, 0⟩ = true := by simp [headB, h00]
      exact this
    · simp only [rowT]
      rw [shapes_two, shapes_two]
      exact ⟨h0.2, h1, rfl⟩
theorem rowS_sh {h : Hd} {k : Fo} (hs : sh1 h k 2 = true) : sh1 (rowS h k).1 (rowS h k).2 2 = true := by
  obtain ⟨h1, h2⟩ := rowF_sh k h hs
  exact rowT_sh h2 _ (fun x hx => h1 x ((srt_perm _).mem_iff.1 hx))
theorem topS_sh {h : Hd} {k : Fo} {ks : List Nat} (hk : kidsL h.op = some ks) (hs : k.shapes ks = true) : (topS h k).shapes ks = true := by
  cases k with
  | nil => exact hs
  | cons h0 k0 r =>
    simp only [topS]
    split
    · next hop =>
      have e : ks = [2] := by
        rcases hop with h5 | h5 <;> · rw [h5] at hk; exact (Option.some.inj hk).symm
      subst e
      rw [shapes_two] at hs ⊢
      exact ⟨rowS_sh hs.1, hs.2⟩
    · exact hs

end Go.Proofs.Ytcjhgefkbnbmnaa

/- What canon keeps while the parts are gone through. -/
namespace Go.Proofs.Ytcjhgefkbnbmnaa
open Go.RowKit LM
set_option linter.unusedVariables false

/-- What canon keeps: blocks from N on are the loop's, D those of them that it may write. -/
structure CanI (w : World) (N : Nat) (h : Hd) (f : Fo) (k : Nat) (st : List Pl) (ts : List (Hd × Fo)) (F : List Nat) (D : Nat → Prop) (W : World) : Prop where
  n : k = (flatL ts).length
  small : k ≤ 1099511627776
  pt : PT PendK W (.cons h f .nil) w.heap.size 0 st ts F
  nd : (w.heap.size :: F).Nodup
  big : ∀ c ∈ F, w.heap.size + 2 ≤ c
  own : ∀ c ∈ F, N ≤ c → D c
  lt : ∀ c ∈ F, c < W.heap.size
  row : RowB W w.heap.size
  res : W.heap[w.heap.size + 1]? = some (.cells #[.int .u8 0, .string ⟨#[]⟩, .int .i64 0, .slice none 0 0] 25 (0, 0))
  below : Below w.heap.size w W
  base : w.heap.size + 2 ≤ N
  room : N ≤ W.heap.size

end Go.Proofs.Ytcjhgefkbnbmnaa

/- A part whose row is sorted in place: what canon keeps behind it. -/
namespace Go.Proofs.Ytcjhgefkbnbmnaa
open Go.RowKit LM
set_option linter.unusedVariables false

end Go.Proofs.Ytcjhgefkbnbmnaa

/- Where canon's loop begins and ends. -/
namespace Go.Proofs.Ytcjhgefkbnbmnaa
open Go.RowKit LM
set_option linter.unusedVariables false

end Go.Proofs.Ytcjhgefkbnbmnaa

/- canon. -/
namespace Go.Proofs.Ytcjhgefkbnbmnaa
open Go.RowKit Go.Shelf LM
set_option linter.unusedVariables false
attribute [local go_sem] Oper.semAt_some

end Go.Proofs.Ytcjhgefkbnbmnaa

/- Canon. -/
namespace Go.Proofs.Ytcjhgefkbnbmnaa
open Go.RowKit LM
set_option linter.unusedVariables false

theorem rowF_type {h : Hd} (hop : h.op ≠ 11) : ∀ k : Fo, rowF h k = ([], (h, k))
  | .nil => rfl
  | .cons _ _ .nil => rfl
  | .cons _ _ (.cons _ _ _) => by rw [rowF, if_neg hop]
theorem rowS_type {h : Hd} (hop : h.op ≠ 11) (k : Fo) : rowS h k = (h, k) := by unfold rowS; rw [rowF_type hop]; rfl
theorem sh1_right {h : Hd} {k : Fo} {s : Nat} (hr : rightB h k s = true) : sh1 h k s = true := by
  unfold rightB at hr
  exact (Bool.and_eq_true_iff.1 hr).1
end Go.Proofs.Ytcjhgefkbnbmnaa

namespace Go.Proofs.Ytcjhgefkbnbmnaa
open Go.RowKit LM
set_option linter.unusedVariables false

theorem topS_id {h : Hd} (hop : ¬ (h.op = 5 ∨ h.op = 6)) (k : Fo) : topS h k = k := by
  cases k with
  | nil => rfl
  | cons h0 k0 r => simp only [topS]; rw [if_neg hop]
/-- Each tree's canonical form. -/
def canM : Fo → Fo
  | .nil => .nil
  | .cons h k r => .cons (canT h k).1 (canT h k).2 (canM r)
theorem type_op {h : Hd} (h2 : sortO h.op = 1) : h.op ≠ 11 := fun e => by rw [e] at h2; cases h2
theorem canT_nop {h : Hd} (hop : h.op ≠ 11) (k : Fo) : canT h k = (h, canL (topS h k)) := by unfold canT; rw [rowS_type hop]
theorem shapes_nil {k : Fo} (h : k.shapes [] = true) : k = .nil := by
  cases k with
  | nil => rfl
  | cons _ _ _ => simp [Fo.shapes] at h
/-- A type's canonical form is of its Kids'. -/
theorem canT_type {h : Hd} {k : Fo} (hs : sh1 h k 1 = true) : canT h k = (h, canM k) := by
  obtain ⟨ks, h1, h2, h3, h4⟩ := sh1_kids hs
  have hop := type_op h2
  rw [canT_nop hop]
  congr 1
  by_cases h5 : h.op = 5 ∨ h.op = 6
  · have e : ks = [2] := by rcases h5 with h5 | h5 <;> · rw [h5] at h1; exact (Option.some.inj h1).symm
    subst e
    cases k with
    | nil => simp [Fo.shapes] at h4
    | cons h0 k0 r =>
      rw [shapes_two] at h4
      have hr := shapes_nil h4.2
      subst hr
      simp only [topS, if_pos h5, canL_cons, canL_nil, canM, canT]
  · rw [topS_id h5]
    by_cases h6 : h.op = 4
    · have e : ks = [1, 1] := by rw [h6] at h1; exact (Option.some.inj h1).symm
      subst e
      cases k with
      | nil => simp [Fo.shapes] at h4
      | cons h0 k0 r =>
        rw [shapes_two] at h4
        obtain ⟨h40, h41⟩ := h4
        cases r with
        | nil => simp [Fo.shapes] at h41
        | cons h0' k0' r' =>
          rw [shapes_two] at h41
          have hr := shapes_nil h41.2
          subst hr
          obtain ⟨_, _, s1, _, _⟩ := sh1_kids h40
          obtain ⟨_, _, s2, _, _⟩ := sh1_kids h41.1
          simp only [canL_cons, canL_nil, canM, canT_nop (type_op s1), canT_nop (type_op s2)]
    · have e : ks = [] := by
        unfold kidsL at h1
        split at h1
        · exact (Option.some.inj h1).symm
        · first | cases h1 | (rw [if_neg h6, if_neg h5, if_neg hop] at h1; cases h1)
      subst e
      rw [shapes_nil h4, canL_nil]; rfl
/-- The order of fields. -/
abbrev ltN : ByteArray × Hd × Fo → ByteArray × Hd × Fo → Bool := fun a b => decide (Lib.compareBytes a.1.data.toList b.1.data.toList < 0)
def canX (x : ByteArray × Hd × Fo) : ByteArray × Hd × Fo := (x.1, (canT x.2.1 x.2.2).1, (canT x.2.1 x.2.2).2)
theorem canT_rowT {t : Hd × Fo} (ht : t.1.op ≠ 11) (ht2 : t.2 = .nil) : ∀ (l : List (ByteArray × Hd × Fo)), (∀ x ∈ l, x.2.1.op ≠ 11) →
    ((rowT t l).1, canL (topS (rowT t l).1 (rowT t l).2)) = rowT t (l.map canX)
  | [], _ => by
    simp only [rowT, List.map_nil]
    rw [ht2]
    show (t.1, canL (topS t.1 .nil)) = t
    rw [show topS t.1 .nil = .nil from rfl, canL_nil, ← ht2]
  | (nm, h, k) :: r, hl => by
    have ih := canT_rowT ht ht2 r (fun x hx => hl x (by simp [hx]))
    have h0 := hl (nm, h, k) (by simp)
    obtain ⟨ih1, ih2⟩ := Prod.mk.inj ih
    simp only [List.map_cons, canX, rowT]
    rw [topS_id (by simp), canL_cons, canL_cons, canL_nil, ih2, ih1, canT_nop h0]
theorem rowF_tail : ∀ (k : Fo) (h : Hd), sh1 h k 2 = true → (rowF h k).2.1.op ≠ 11
  | .nil, h, hs => fun hop => by
    obtain ⟨ks, h1, _, _, h4⟩ := sh1_kids hs
    have hop' : h.op = 11 := hop
    have e : ks = [1, 2] := by rw [hop'] at h1; exact (Option.some.inj h1).symm
    subst e
    simp [Fo.shapes] at h4
  | .cons h0 k0 .nil, h, hs => fun hop => by
    obtain ⟨ks, h1, _, _, h4⟩ := sh1_kids hs
    have hop' : h.op = 11 := hop
    have e : ks = [1, 2] := by rw [hop'] at h1; exact (Option.some.inj h1).symm
    subst e
    rw [shapes_two] at h4
    have := h4.2
    simp [Fo.shapes] at this
  | .cons h0 k0 (.cons h1 k1 r), h, hs => by
    by_cases hop : h.op = 11
    · rw [rowF, if_pos hop]
      obtain ⟨ks, h1', h2', h3', h4'⟩ := sh1_kids hs
      have e : ks = [1, 2] := by rw [hop] at h1'; exact (Option.some.inj h1').symm
      subst e
      rw [shapes_two, shapes_two] at h4'
      exact rowF_tail k1 h1 h4'.2.1
    · rw [rowF, if_neg hop]; exact hop
/-- A row's is of its fields, in order. -/
theorem canT_row {h : Hd} {k : Fo} (hs : sh1 h k 2 = true) : canT h k = rowT (rowF h k).2 ((srt ltN (rowF h k).1).map canX) := by
  obtain ⟨h1, h2⟩ := rowF_sh k h hs
  obtain ⟨ks, e1, e2, e3, e4⟩ := sh1_kids h2
  have hop : (rowF h k).2.1.op ≠ 11 := rowF_tail k h hs
  have hn : (rowF h k).2.2 = .nil := by
    have e : ks = [] := by
      unfold kidsL at e1
      split at e1
      · exact (Option.some.inj e1).symm
      · next h9 =>
        unfold sortO at e2
        split at e2
        · cases e2
        · exfalso; revert e1; (repeat (first | rw [if_neg (by omega)] | rw [if_neg hop])); intro e1; cases e1
    subst e
    exact shapes_nil e4
  have hl : ∀ x ∈ srt ltN (rowF h k).1, x.2.1.op ≠ 11 := fun x hx => by
    obtain ⟨_, _, s1, _, _⟩ := sh1_kids (h1 x ((srt_perm _).mem_iff.1 hx)).2
    exact type_op s1
  exact canT_rowT hop hn _ hl
end Go.Proofs.Ytcjhgefkbnbmnaa

/- Two lists of parts' places, their heads held one against the other. -/
namespace Go.Proofs.Ytcjhgefkbnbmnaa
open Go.RowKit LM
set_option linter.unusedVariables false

/-- A head at a place. -/
structure HAt (w : World) (p : Pl) (h : Hd) : Prop where
  c0 : w.cell? ⟨p.1, p.2, none⟩ = some (.int .u8 h.op)
  c1 : w.cell? ⟨p.1, p.2 + 1, none⟩ = some (.string h.name)
  c2 : w.cell? ⟨p.1, p.2 + 2, none⟩ = some (.int .i64 h.n)
/-- Places with their heads. -/
def HsAt (w : World) : List Pl → List Hd → Prop
  | [], [] => True
  | p :: ps, h :: hs => HAt w p h ∧ HsAt w ps hs
  | _, _ => False
/-- Are two heads alike? -/
def hdB (a b : Hd) : Bool := decide (a.op = b.op) && decide (a.name = b.name) && decide (a.n = b.n)
/-- A slice of places, in memory. -/
def PsAt (w : World) (a : Option Addr) (ps : List Pl) : Prop := 0 < ps.length → ∃ b o, a = some ⟨b, o, none⟩ ∧ ∀ i (h : i < ps.length), w.cell? ⟨b, o + i, none⟩ = some (.pointer (some ⟨ps[i].1, ps[i].2, none⟩))
/-- What holds while the first j have been found alike. -/
structure EqI (w : World) (hs hs' : List Hd) (L j : Nat) (wr : World) : Prop where
  le : j ≤ L
  al : hs.take j = hs'.take j
  below : Below w.heap.size w wr
end Go.Proofs.Ytcjhgefkbnbmnaa

/- The places of all parts, gathered: AppendSeq, Collect. -/
namespace Go.Proofs.Ytcjhgefkbnbmnaa
open Go.RowKit Go.Shelf LM
set_option linter.unusedVariables false
attribute [local go_sem] Oper.semAt_some

/-- What is kept while places are gathered. -/
def PlB (w1 : World) (Bp base : Nat) (pre : List (Hd × Fo)) (D : Nat → Prop) (W : World) : Prop :=
  ∃ v pls, Boxed W Bp 69 v ∧ W.ownsRow base 64 1 v pre.length (pls.map Pl.ptr) ∧ HsAt w1 pls (pre.map Prod.fst) ∧ ∀ g, v.ownBlock = some g → D g
/-- The places of all parts come back. -/
def PsPost (w : World) (hs : List Hd) (e : Ending) (w' : World) : Prop :=
  ∃ a cap pls, e = .returned (.slice a hs.length cap) ∧ hs.length ≤ cap ∧ PsAt w' a pls ∧ HsAt w' pls hs ∧ Below w.heap.size w w'

end Go.Proofs.Ytcjhgefkbnbmnaa

/- Same. -/
namespace Go.Proofs.Ytcjhgefkbnbmnaa
open Go.RowKit Go.Shelf LM
set_option linter.unusedVariables false

/-- Behind the two canonical forms. -/
structure SmB (w : World) (T T' : Hd × Fo) (q : Option Addr) (c : Nat) (q' : Option Addr) (c' : Nat) (W : World) : Prop where
  b0 : W.heap[w.heap.size]? = some (.cells #[.int .u8 T.1.op, .string T.1.name, .int .i64 T.1.n, .slice q T.2.len c] 25 (0, 0))
  b1 : W.heap[w.heap.size + 1]? = some (.cells #[.int .u8 T'.1.op, .string T'.1.name, .int .i64 T'.1.n, .slice q' T'.2.len c'] 25 (0, 0))
  s0 : SlF W q c T.2
  s1 : SlF W q' c' T'.2
  below : Below w.heap.size w W
def SameMid (w : World) (T T' : Hd × Fo) (e : Exit) (a : Act) (W : World) : Prop :=
  e = .normal ∧ ∃ (q q' : Option Addr) (c c' : Nat) (u0 u1 u5 u6 u7 u8 u9 u10 u11 u12 u13 u14 u15 u16 : Value),
    a = { tmps := #[u0, u1, .pointer (some ⟨w.heap.size, 0, none⟩), .pointer (some ⟨w.heap.size + 1, 0, none⟩), .bool false, u5, u6, u7, u8, u9, u10, u11, u12, u13, u14, u15, u16, undef, undef, undef, undef, undef], defers := [] } ∧ SmB w T T' q c q' c' W

end Go.Proofs.Ytcjhgefkbnbmnaa

/- The document's Of, with what its answer hangs on. -/
namespace Go.Proofs.Ytcjhgefkbnbmnaa
open Go.RowKit LM
set_option linter.unusedVariables false

/-- A tree in blocks that S names: told by what agrees there. -/
def DpS (S : Nat → Prop) (w : World) (q : Option Addr) (c : Nat) (k : Fo) : Prop := ∀ w'' : World, (∀ b, S b → b < w.heap.size → w''.heap[b]? = w.heap[b]?) → SlF w'' q c k
theorem DpS.grown {S : Nat → Prop} {w w' : World} {q : Option Addr} {c : Nat} {k : Fo} (h : DpS S w q c k) (hs : w.heap.size ≤ w'.heap.size) (he : ∀ b, S b → b < w.heap.size → w'.heap[b]? = w.heap[b]?) : DpS S w' q c k := fun w'' h2 =>
  h w'' (fun b hS hb => (h2 b hS (by omega)).trans (he b hS hb))
theorem DpS.mono {S S' : Nat → Prop} {w : World} {q : Option Addr} {c : Nat} {k : Fo} (h : DpS S w q c k) (hs : ∀ b, S b → S' b) : DpS S' w q c k := fun w'' h2 => h w'' (fun b hS hb => h2 b (hs b hS) hb)
theorem DpS.here {S : Nat → Prop} {w : World} {q : Option Addr} {c : Nat} {k : Fo} (h : DpS S w q c k) : SlF w q c k := h w (fun _ _ _ => rfl)
theorem DpS.nil {S : Nat → Prop} {w : World} {q : Option Addr} {c : Nat} (hc : c ≤ maxLen) : DpS S w q c .nil := fun _ _ => ⟨Nat.zero_le _, hc, fun h => absurd h (Nat.lt_irrefl _)⟩
def AgS (S : Nat → Prop) (N n : Nat) (wr : World) (q : Option Addr) (c : Nat) (k : Fo) : Prop := ∀ w'' : World, (∀ b, ((S b ∧ b < N) ∨ n ≤ b) → b < wr.heap.size → w''.heap[b]? = wr.heap[b]?) → SlF w'' q c k
theorem AgS.field {S : Nat → Prop} {w : World} {n : Nat} {wr w2 : World} {q0 q1 : Option Addr} {c0 c1 g : Nat} {h0 h1 : Hd} {k0 k1 : Fo} (hw : Below w.heap.size w wr) (h : AgS S w.heap.size n wr q1 c1 k1) (h2 : Below wr.heap.size wr w2) (s0 : DpS S w q0 c0 k0)
    (hg : w2.heap[g]? = some (.cells #[.int .u8 h0.op, .string h0.name, .int .i64 h0.n, .slice q0 k0.len c0, .int .u8 h1.op, .string h1.name, .int .i64 h1.n, .slice q1 k1.len c1] 25 (0, 0))) (hn : n ≤ g) : AgS S w.heap.size n w2 (some ⟨g, 0, none⟩) 2 (.cons h0 k0 (.cons h1 k1 .nil)) := fun w'' he => by
  have hs := h2.size
  refine two_fo ((he g (.inr hn) (Array.getElem?_eq_some_iff.1 hg).1).trans hg) (s0 w'' (fun b hS hb => ?_)) (h w'' (fun b hb hlt => (he b hb (by omega)).trans (h2.block b hlt)))
  have := hw.size
  rw [he b (.inl ⟨hS, hb⟩) (by omega), h2.block b (by omega), hw.block b hb]
theorem AgS.set {S : Nat → Prop} {N n : Nat} {wr w' : World} {q : Option Addr} {c : Nat} {k : Fo} (h : AgS S N n wr q c k) {r : Nat} (hg : wr.grownBy w' (some r)) (h1 : N ≤ r) (h2 : r < n) : AgS S N n w' q c k := fun w'' he =>
  h w'' (fun b hb hlt => (he b hb (Nat.lt_of_lt_of_le hlt hg.size)).trans (hg.block b hlt (fun e => by have := Option.some.inj e; omega)))
/-- A tree comes back, with what it hangs on. -/
def OfPost (S : Nat → Prop) (w : World) (T : Hd × Fo) (e : Ending) (w' : World) : Prop :=
  ∃ q cap, e = .returned (.agg #[.int .u8 T.1.op, .string T.1.name, .int .i64 T.1.n, .slice q T.2.len cap]) ∧ DpS (fun b => S b ∨ w.heap.size ≤ b) w' q cap T.2 ∧ Below w.heap.size w w'

set_option maxRecDepth 100000 in
set_option maxHeartbeats 1000000 in
theorem Of_dep (S : Nat → Prop) (fs : List Fld) (q : Option Addr) (cap : Nat) (th : Hd) (tk : Fo) (tq : Option Addr) (tc : Nat) (w : World) (hf : FdSl w q cap fs) (hs : DpS S w tq tc tk) (hm : ∀ f ∈ fs, DpS S w f.q f.cap f.k) (hbd : tk.len ≤ tc ∧ tc ≤ maxLen) (hl : fs.length ≤ 1099511627776) :
    Calls Try.prog 67 #[.slice q fs.length cap, .agg #[.int .u8 th.op, .string th.name, .int .i64 th.n, .slice tq tk.len tc]] w (OfPost S w (rowT (th, tk) (fs.map Fld.key))) := by
  have HF := Lib.hid hf
  have HS := Lib.hid hs
  have HM := Lib.hid hm
  have HFL := Lib.hid Field_at
  have hst : ∀ o1 : Obj, (((w.alloc (.cells #[.int .u8 th.op, .string th.name, .int .i64 th.n, .slice tq tk.len tc] 25)).alloc (.cells #[.int .u8 0, .string ⟨#[]⟩, .int .i64 0, .slice none 0 0] 25)).alloc (.cells #[.int .u8 th.op, .string th.name, .int .i64 th.n, .slice tq tk.len tc] 25)).heap[w.heap.size + 1]? = some (.cells #[.int .u8 0, .string ⟨#[]⟩, .int .i64 0, .slice none 0 0] 25 (0, 0)) ∧
      (((w.alloc (.cells #[.int .u8 th.op, .string th.name, .int .i64 th.n, .slice tq tk.len tc] 25)).alloc (.cells #[.int .u8 0, .string ⟨#[]⟩, .int .i64 0, .slice none 0 0] 25)).alloc (.cells #[.int .u8 th.op, .string th.name, .int .i64 th.n, .slice tq tk.len tc] 25)).heap[w.heap.size + 1 + 1]? = some (.cells #[.int .u8 th.op, .string th.name, .int .i64 th.n, .slice tq tk.len tc] 25 (0, 0)) ∧
      Below w.heap.size w (((w.alloc (.cells #[.int .u8 th.op, .string th.name, .int .i64 th.n, .slice tq tk.len tc] 25)).alloc (.cells #[.int .u8 0, .string ⟨#[]⟩, .int .i64 0, .slice none 0 0] 25)).alloc (.cells #[.int .u8 th.op, .string th.name, .int .i64 th.n, .slice tq tk.len tc] 25)) := fun _ => by
    have e2 := World.alloc_heap_new (w.alloc (.cells #[.int .u8 th.op, .string th.name, .int .i64 th.n, .slice tq tk.len tc] 25)) (.cells #[.int .u8 0, .string ⟨#[]⟩, .int .i64 0, .slice none 0 0] 25)
    have e3 := World.alloc_heap_new ((w.alloc (.cells #[.int .u8 th.op, .string th.name, .int .i64 th.n, .slice tq tk.len tc] 25)).alloc (.cells #[.int .u8 0, .string ⟨#[]⟩, .int .i64 0, .slice none 0 0] 25)) (.cells #[.int .u8 th.op, .string th.name, .int .i64 th.n, .slice tq tk.len tc] 25)
    simp only [World.size_alloc] at e2 e3
    exact ⟨((below_box _ _).block _ (by simp)).trans e2, e3, ((below_box _ _).alloc (by simp) _).alloc (by simp; omega) _⟩
  have HST := Lib.hid (hst (.cells #[] 0))
  clear hf hs hm hst
  generalize hLd : fs.length = L at *
  have HL := Lib.hid hLd
  clear hLd
  go_enter Try.func67, Try.ntmps67
  go_wp2
  go_loopw [6] (fun i wr => ∃ (k : Nat) (h : Hd) (kk : Fo) (q1 : Option Addr) (c : Nat), k ≤ L ∧ i = .int .i64 ((k : Int) - 1) ∧ Hid ((h, kk) = rowT (th, tk) ((fs.drop k).map Fld.key) ∧ AgS S w.heap.size (w.heap.size + 3) wr q1 c kk) ∧
    wr.heap[w.heap.size + 1 + 1]? = some (.cells #[.int .u8 h.op, .string h.name, .int .i64 h.n, .slice q1 kk.len c] 25 (0, 0)) ∧ wr.heap[w.heap.size + 1]? = some (.cells #[.int .u8 0, .string ⟨#[]⟩, .int .i64 0, .slice none 0 0] 25 (0, 0)) ∧ Below w.heap.size w wr) (fun i _ => (intOf i + 1).toNat)
  case atStart => exact ⟨L, th, tk, tq, tc, Nat.le_refl _, rfl, Lib.hid ⟨by rw [List.drop_of_length_le (by rw [HL.out]; exact Nat.le_refl _)]; rfl, fun w'' he => HS.out w'' (fun b hS hb => by rw [he b (.inl ⟨hS, hb⟩) (by simp; omega), HST.out.2.2.block b hb])⟩, HST.out.2.1, HST.out.1, HST.out.2.2⟩
  case round =>
    obtain ⟨k, h, kk, q1, c, hkL, rfl, HR, hb, hr, hbl⟩ := hrel
    obtain ⟨t0, t1, t2, t3, u0, u1, u2, u3⟩ := row4 hb
    obtain ⟨y0, y1, y2, y3, z0, z1, z2, z3⟩ := row4 hr
    have HB := Lib.hid hb
    have HRS := Lib.hid hr
    have HBL := Lib.hid hbl
    have hwr : w.heap.size + 1 + 1 < wr.heap.size := (Array.getElem?_eq_some_iff.1 hb).1
    clear hb hr hbl
    by_cases hk0 : k = 0
    · have HE := Lib.hid hk0
      have ei : (k : Int) - 1 = -1 := by omega
      rw [ei]
      clear hk0 ei
      go_wp2
      have hR := HR.out
      rw [HE.out, List.drop_zero] at hR
      have hg := set4_grown wr (w.heap.size + 1) (.int .u8 h.op) (.string h.name) (.int .i64 h.n) (.slice q1 kk.len c)
      refine bodyPost_ret (v := .agg #[.int .u8 h.op, .string h.name, .int .i64 h.n, .slice q1 kk.len c]) (by simp [results, Try.results67, go_sem, y0, y1, y2, y3]) rfl ?_
      rw [← hR.1]
      exact ⟨_, _, rfl, (fun w'' he => (hR.2.set hg (by omega) (by omega)) w'' (fun b hb hlt => he b (hb.imp (fun h => h.1) (fun h => by omega)) hlt)), HBL.out.grown hg HBL.out.size (fun r e => by have := Option.some.inj e; omega)⟩
    · obtain ⟨j, rfl⟩ : ∃ j, k = j + 1 := ⟨k - 1, by omega⟩
      have hjf : j < fs.length := by rw [HL.out]; omega
      obtain ⟨b, o, rfl, hbw, hcs⟩ := HF.out.at_ (by omega)
      obtain ⟨c0, c1, c2, c3, c4⟩ := hcs j hjf
      have kc : ∀ x, wr.cell? ⟨b, x, none⟩ = w.cell? ⟨b, x, none⟩ := fun x => HBL.out.cell (p := ⟨b, x, none⟩) hbw
      rw [← kc] at c0 c1 c2 c3 c4
      have hfm := HM.out fs[j] (List.getElem_mem _)
      have hdrop : (fs.drop j).map Fld.key = fs[j].key :: (fs.drop (j + 1)).map Fld.key := by rw [List.drop_eq_getElem_cons hjf]; rfl
      have ej : ((j + 1 : Nat) : Int) - 1 = (j : Int) := by omega
      have ej2 : (j : Int) + 1 - 1 = (j : Int) := by omega
      have hjL : (j : Int) < (L : Int) := by omega
      have hj0 : (0 : Int) ≤ (j : Int) := by omega
      have hd : decide ((j : Int) ≥ 0) = true := decide_eq_true hj0
      have HD := Lib.hid hdrop
      have HFM := Lib.hid hfm
      clear kc hcs hdrop hfm hk0
      generalize fs[j] = f at *
      rw [ej]
      have HC := Lib.hid fun w' => HFL.out f.name f.h f.k f.q f.cap h kk q1 c w'
      go_wp2
      go_still_tail 11, (by kernel_rfl)
      change wpList _ _ _ _ _ wr.drew
      go_wp2_with (go_at_call 50; refine (HC.out _).mono ?_; rintro e w2 ⟨g, rfl, hg1, hg2, hb2⟩; have hrow2 := (hb2.block (w.heap.size + 1 + 1) hwr).trans HB.out; have hres2 := (hb2.block (w.heap.size + 1) (by show _ < wr.heap.size; omega)).trans HRS.out; obtain ⟨s0, s1, s2, s3, v0, v1, v2, v3⟩ := row4 hrow2; have HROW := Lib.hid hrow2; have HRES := Lib.hid hres2; have HG1 := Lib.hid hg1; have HG2 := Lib.hid hg2; have HB2 := Lib.hid hb2; clear hg1 hg2 hb2 hrow2 hres2)
      go_roundw
      case measure => simp [intOf]
      case rel =>
        have hg := set4_grown w2 (w.heap.size + 1 + 1) (.int .u8 11) (.string f.name) (.int .i64 0) (.slice (some ⟨g, 0, none⟩) 2 2)
        have hb2' : Below wr.heap.size wr w2 := ((Below.refl wr.heap.size wr).drew).trans HB2.out
        have hgw : wr.heap.size ≤ g := HG1.out
        have hbw2 : Below w.heap.size w w2 := HBL.out.trans (hb2'.mono HBL.out.size)
        have hag := AgS.field HBL.out HR.out.2 hb2' HFM.out HG2.out (by omega)
        refine ⟨j, ⟨11, f.name, 0⟩, .cons f.h f.k (.cons h kk .nil), some ⟨g, 0, none⟩, 2, by omega, rfl, Lib.hid ⟨?_, hag.set hg (by omega) (by omega)⟩, set4_row HROW.out _ _ _ _, (hg.block _ (Array.getElem?_eq_some_iff.1 HRES.out).1 (fun e => by have := Option.some.inj e; omega)).trans HRES.out, hbw2.grown hg hbw2.size (fun r e => by have := Option.some.inj e; omega)⟩
        rw [HD.out, show rowT (th, tk) (f.key :: (fs.drop (j + 1)).map Fld.key) = (⟨11, f.name, 0⟩, .cons f.h f.k (.cons (rowT (th, tk) ((fs.drop (j + 1)).map Fld.key)).1 (rowT (th, tk) ((fs.drop (j + 1)).map Fld.key)).2 .nil)) from rfl, ← HR.out.1]
end Go.Proofs.Ytcjhgefkbnbmnaa

/- Trees that are made of a tree's Kids, one by one: what a loop keeps that appends them. -/
namespace Go.Proofs.Ytcjhgefkbnbmnaa
open Go.RowKit LM
set_option linter.unusedVariables false

def mapG (G : Hd → Fo → Hd × Fo) : Fo → Fo
  | .nil => .nil
  | .cons h k r => .cons (G h k).1 (G h k).2 (mapG G r)
theorem mapG_canT (f : Fo) : mapG canT f = canM f := by
  induction f with
  | nil => rfl
  | cons h k r _ ih => simp only [mapG, canM, ih]
theorem mapG_len (G : Hd → Fo → Hd × Fo) (f : Fo) : (mapG G f).len = f.len := by
  induction f with
  | nil => rfl
  | cons h k r _ ih => simp only [mapG, Fo.len, ih]
theorem mapG_app (G : Hd → Fo → Hd × Fo) (f g : Fo) : mapG G (f.app g) = (mapG G f).app (mapG G g) := by
  induction f with
  | nil => rfl
  | cons h k r _ ih => simp only [mapG, Fo.app, ih]

/-- A tree of new memory comes back. -/
def CnPost (w : World) (T : Hd × Fo) (e : Ending) (w' : World) : Prop :=
  ∃ q cap, e = .returned (.agg #[.int .u8 T.1.op, .string T.1.name, .int .i64 T.1.n, .slice q T.2.len cap]) ∧ DpS (fun b => w.heap.size ≤ b) w' q cap T.2 ∧ Below w.heap.size w w'

/-- Where the boxes lie. -/
structure MpS (w : World) (bt br bo base : Nat) : Prop where
  t0 : w.heap.size ≤ bt
  t1 : bt < base
  r0 : w.heap.size ≤ br
  r1 : br < base
  o0 : w.heap.size ≤ bo
  o1 : bo < base
  tr : bt ≠ br
  tO : bt ≠ bo
  ro : br ≠ bo

/-- What is kept along the Kids. -/
structure MpI (w : World) (h ho : Hd) (k : Fo) (q : Option Addr) (L cap : Nat) (G : Hd → Fo → Hd × Fo) (bt br bo base : Nat) (j : Nat) (v : Value) (wr : World) : Prop where
  le : j ≤ L
  own : ∃ cs, wr.ownsRow base 25 4 v j cs ∧ ∀ w'' : World, (∀ b, base ≤ b → b < wr.heap.size → v.ownBlock ≠ some b → w''.heap[b]? = wr.heap[b]?) → CellsOf w'' (mapG G (k.take j)) cs
  bt : wr.heap[bt]? = some (.cells #[.int .u8 h.op, .string h.name, .int .i64 h.n, .slice q L cap] 25 (0, 0))
  br : wr.heap[br]? = some (.cells #[.int .u8 0, .string ⟨#[]⟩, .int .i64 0, .slice none 0 0] 25 (0, 0))
  bo : wr.heap[bo]? = some (.cells #[.int .u8 ho.op, .string ho.name, .int .i64 ho.n, v] 25 (0, 0))
  below : Below w.heap.size w wr
  room : base ≤ wr.heap.size

theorem MpI.start (w : World) (h ho : Hd) (k : Fo) (q : Option Addr) (cap : Nat) (G : Hd → Fo → Hd × Fo) :
    MpS w w.heap.size (w.heap.size + 1) (w.heap.size + 2) (w.heap.size + 3) ∧ MpI w h ho k q k.len cap G w.heap.size (w.heap.size + 1) (w.heap.size + 2) (w.heap.size + 3) 0 (.slice none 0 0) (((w.alloc (.cells #[.int .u8 h.op, .string h.name, .int .i64 h.n, .slice q k.len cap] 25)).alloc (.cells #[.int .u8 0, .string ⟨#[]⟩, .int .i64 0, .slice none 0 0] 25)).alloc (.cells #[.int .u8 ho.op, .string ho.name, .int .i64 ho.n, .slice none 0 0] 25)) := by
  have e1 := World.alloc_heap_new w (.cells #[.int .u8 h.op, .string h.name, .int .i64 h.n, .slice q k.len cap] 25)
  have e2 := World.alloc_heap_new (w.alloc (.cells #[.int .u8 h.op, .string h.name, .int .i64 h.n, .slice q k.len cap] 25)) (.cells #[.int .u8 0, .string ⟨#[]⟩, .int .i64 0, .slice none 0 0] 25)
  have e3 := World.alloc_heap_new ((w.alloc (.cells #[.int .u8 h.op, .string h.name, .int .i64 h.n, .slice q k.len cap] 25)).alloc (.cells #[.int .u8 0, .string ⟨#[]⟩, .int .i64 0, .slice none 0 0] 25)) (.cells #[.int .u8 ho.op, .string ho.name, .int .i64 ho.n, .slice none 0 0] 25)
  simp only [World.size_alloc] at e2 e3
  refine ⟨⟨by omega, by omega, by omega, by omega, by omega, by omega, by omega, by omega, by omega⟩, Nat.zero_le _, ⟨[], World.ownsRow_nil _ _ _ _, fun w'' _ => by rw [Fo.take_zero]; rfl⟩, ?_, ?_, e3, ((below_box _ _).alloc (by simp) _).alloc (by simp; omega) _, by simp⟩
  · exact ((below_box _ _).block _ (by simp; omega)).trans (((below_box _ _).block _ (by simp)).trans e1)
  · exact ((below_box _ _).block _ (by simp)).trans e2

theorem MpI.go {w : World} {h ho : Hd} {k : Fo} {q : Option Addr} {L cap : Nat} {G : Hd → Fo → Hd × Fo} {bt br bo base j : Nat} {v v' : Value} {wr w1 w2 : World} {cs : List Value} {q2 : Option Addr} {cap2 : Nat} {o : Obj} (hS : MpS w bt br bo base)
    (hI : MpI w h ho k q L cap G bt br bo base j v wr) (hL : k.len = L) (hj : j < L)
    (hv : ∀ r, v.ownBlock = some r → base ≤ r ∧ r < wr.heap.size)
    (hcs : ∀ w'' : World, (∀ b, base ≤ b → b < wr.heap.size → v.ownBlock ≠ some b → w''.heap[b]? = wr.heap[b]?) → CellsOf w'' (mapG G (k.take j)) cs)
    (hb1 : Below wr.drew.heap.size wr.drew w1)
    (hk2 : DpS (fun b => wr.drew.heap.size ≤ b) w1 q2 cap2 (G (k.get j).1 (k.get j).2).2)
    (hown : w2.ownsRow base 25 4 v' (j + 1) (cs ++ [.int .u8 (G (k.get j).1 (k.get j).2).1.op, .string (G (k.get j).1 (k.get j).2).1.name, .int .i64 (G (k.get j).1 (k.get j).2).1.n, .slice q2 (G (k.get j).1 (k.get j).2).2.len cap2]))
    (hg : (w1.alloc o).grownBy w2 v.ownBlock) (hat : v'.ownBlock = v.ownBlock ∨ v'.ownBlock = some (w1.alloc o).heap.size) :
    MpI w h ho k q L cap G bt br bo base (j + 1) v' (w2.setCell ⟨bo, 3, none⟩ v') := by
  have hjk : j < k.len := by omega
  obtain ⟨t0, t1, r0, r1, o0, o1, tr, tO, ro⟩ := hS
  have hs1 : wr.heap.size ≤ w1.heap.size := hb1.size
  have hs2 : (w1.alloc o).heap.size ≤ w2.heap.size := hg.size
  rw [World.size_alloc] at hs2 hat
  have hroom := hI.room
  have hset : ∀ b, b ≠ bo → (w2.setCell ⟨bo, 3, none⟩ v').heap[b]? = w2.heap[b]? := fun b hb => Below.heap_setCell _ _ _ b hb
  have h21 : ∀ b, b < w1.heap.size → v.ownBlock ≠ some b → w2.heap[b]? = w1.heap[b]? := fun b hb hne =>
    (hg.block b (by rw [World.size_alloc]; omega) (fun e => hne e.symm)).trans ((below_box w1 o).block b hb)
  have h1r : ∀ b, b < wr.heap.size → w1.heap[b]? = wr.heap[b]? := fun b hb => hb1.block b hb
  have hold : ∀ b, b < base → v.ownBlock ≠ some b := fun b hb e => by have := (hv b e).1; omega
  have hsz3 : (w2.setCell ⟨bo, 3, none⟩ v').heap.size = w2.heap.size := by simp
  refine ⟨hj, ⟨_, hown.kept (row := some bo) (setCell_grown w2 _ 3 v') (.inr ?_), ?_⟩, ?_, ?_, ?_, ?_, by rw [hsz3]; omega⟩
  · intro e; have := (hown.lt _ e).1; omega
  · intro w'' hag
    rw [Fo.take_succ hjk, mapG_app]
    refine CellsOf.app (hcs w'' (fun b hb1' hb2 hb3 => ?_)) ⟨q2, cap2, [], rfl, hk2 w'' (fun b hb1' hb2 => ?_), rfl⟩
    · rw [hag b hb1' (by rw [hsz3]; omega) (by rcases hat with e | e <;> rw [e]; exact hb3; intro e2; have := Option.some.inj e2; omega), hset b (by omega), h21 b (by omega) hb3, h1r b hb2]
    · have hb1'' : wr.heap.size ≤ b := hb1'
      have hne : v.ownBlock ≠ some b := fun e => by have := (hv b e).2; omega
      rw [hag b (by omega) (by rw [hsz3]; omega) (by rcases hat with e | e <;> rw [e]; exact hne; intro e2; have := Option.some.inj e2; omega), hset b (by omega), h21 b hb2 hne]
  · rw [hset _ tO, h21 _ (by omega) (hold _ (by omega)), h1r _ (by omega)]; exact hI.bt
  · rw [hset _ ro, h21 _ (by omega) (hold _ (by omega)), h1r _ (by omega)]; exact hI.br
  · have : w2.heap[bo]? = some (.cells #[.int .u8 ho.op, .string ho.name, .int .i64 ho.n, v] 25 (0, 0)) := by
      rw [h21 _ (by omega) (hold _ (by omega)), h1r _ (by omega)]; exact hI.bo
    simpa using row_set this 3 v'
  · have b1 : Below w.heap.size w w1 := hI.below.drew.trans (hb1.mono (by have := hI.below.size; exact this))
    have b2 : Below w.heap.size w w2 := (b1.alloc b1.size o).grown hg (by rw [World.size_alloc]; have := b1.size; omega) (fun r e => by have := (hv r e).1; omega)
    exact b2.setCell (by simpa using o0) _

theorem MpI.nine {w : World} {h ho : Hd} {k : Fo} {q : Option Addr} {L cap : Nat} {G : Hd → Fo → Hd × Fo} {bt br bo base j : Nat} {v : Value} {wr w1 w2 : World} {o : Obj} (hS : MpS w bt br bo base)
    (hI : MpI w h ho k q L cap G bt br bo base j v wr) (hv : ∀ r, v.ownBlock = some r → base ≤ r ∧ r < wr.heap.size) (hb1 : Below wr.drew.heap.size wr.drew w1) (hg : (w1.alloc o).grownBy w2 v.ownBlock) :
    w2.heap[bo]? = some (.cells #[.int .u8 ho.op, .string ho.name, .int .i64 ho.n, v] 25 (0, 0)) := by
  have hs1 : wr.heap.size ≤ w1.heap.size := hb1.size
  have hroom := hI.room
  have o1 := hS.o1
  refine (hg.block _ (by rw [World.size_alloc]; omega) (fun e => by have := (hv _ e.symm).1; omega)).trans (((below_box w1 o).block _ (by omega)).trans ((hb1.block bo (by show _ < wr.heap.size; omega)).trans hI.bo))

theorem MpI.fin {w : World} {h ho : Hd} {k : Fo} {q : Option Addr} {L cap : Nat} {G : Hd → Fo → Hd × Fo} {bt br bo base : Nat} {v : Value} {wr : World} (hS : MpS w bt br bo base)
    (hI : MpI w h ho k q L cap G bt br bo base L v wr) (hL : k.len = L) :
    ∃ q' cap', v = .slice q' L cap' ∧ ∀ v0 v1 v2 v3, CnPost w (ho, mapG G k) (.returned (.agg #[.int .u8 ho.op, .string ho.name, .int .i64 ho.n, .slice q' L cap'])) (World.set4 wr br v0 v1 v2 v3) := by
  obtain ⟨cs, hown, hcs⟩ := hI.own
  obtain ⟨t0, t1, r0, r1, o0, o1, tr, tO, ro⟩ := hS
  subst hL
  rw [Fo.take_all] at hcs
  have hlen := mapG_len G k
  have hbel : ∀ v0 v1 v2 v3, Below w.heap.size w (World.set4 wr br v0 v1 v2 v3) := fun v0 v1 v2 v3 => hI.below.grown (set4_grown _ _ _ _ _ _) hI.below.size (fun r e => by have := Option.some.inj e; omega)
  have hag : ∀ (v0 v1 v2 v3 : Value) (w'' : World), (∀ b, w.heap.size ≤ b → b < (World.set4 wr br v0 v1 v2 v3).heap.size → w''.heap[b]? = (World.set4 wr br v0 v1 v2 v3).heap[b]?) → ∀ b, base ≤ b → b < wr.heap.size → w''.heap[b]? = wr.heap[b]? := fun v0 v1 v2 v3 w'' hh b h1 h2 => by
    have hg := set4_grown wr br v0 v1 v2 v3
    exact (hh b (by omega) (Nat.lt_of_lt_of_le h2 hg.size)).trans (hg.block b h2 (fun e => by have := Option.some.inj e; omega))
  by_cases h0 : k.len = 0
  · have hn : ∃ q' cap', v = .slice q' k.len cap' ∧ cap' ≤ maxLen := by
      rcases hown.2 with ⟨rfl, e⟩ | ⟨g, c, cur, rfl, _, _, _, hc, _⟩
      · exact ⟨none, 0, by rw [e], Nat.zero_le _⟩
      · exact ⟨_, c, rfl, hc⟩
    obtain ⟨q', cap', rfl, hc⟩ := hn
    refine ⟨q', cap', rfl, fun v0 v1 v2 v3 => ⟨q', cap', by rw [hlen], fun w'' _ => ⟨by rw [hlen]; omega, hc, fun h' => by rw [hlen] at h'; omega⟩, hbel _ _ _ _⟩⟩
  · obtain ⟨g, cap', cur, rfl, hg, hgc, hc1, hc2, hcell⟩ := own_some hown (by omega)
    have hlt := (Array.getElem?_eq_some_iff.1 hgc).1
    refine ⟨_, cap', rfl, fun v0 v1 v2 v3 => ⟨_, cap', by rw [hlen], fun w'' hh => ⟨by rw [hlen]; exact hc1, hc2, fun _ => ⟨g, 0, rfl, ?_⟩⟩, hbel _ _ _ _⟩⟩
    have ha := hag v0 v1 v2 v3 w'' hh
    refine CellsOf.fo (hcs w'' (fun b h1 h2 _ => ha b h1 h2)) fun j u hj => ?_
    have e : w''.heap[g]? = wr.heap[g]? := ha g hg hlt
    exact (World.cell?_of_block (a := ⟨g, 0 + j, none⟩) e).trans (hcell j u hj)
end Go.Proofs.Ytcjhgefkbnbmnaa

/- The document's Canon: plain words, and what its first loop keeps. -/
namespace Go.Proofs.Ytcjhgefkbnbmnaa
open Go.RowKit LM
set_option linter.unusedVariables false

theorem shapes_get : ∀ {k : Fo} {ks : List Nat} {j : Nat}, k.shapes ks = true → (∀ s ∈ ks, s = 1 ∨ s = 2) → j < k.len → ∃ s, sh1 (k.get j).1 (k.get j).2 s = true ∧ (s = 1 ∨ s = 2)
  | .nil, ks, j, _, _, hj => by simp [Fo.len] at hj
  | .cons h k r, [], j, hs, _, _ => by simp [Fo.shapes] at hs
  | .cons h k r, s :: ss, 0, hs, h12, _ => by rw [Fo.get_zero]; exact ⟨s, (shapes_two.1 hs).1, h12 s (by simp)⟩
  | .cons h k r, s :: ss, j + 1, hs, h12, hj => by rw [Fo.get_succ]; exact shapes_get (shapes_two.1 hs).2 (fun x hx => h12 x (by simp [hx])) (by simpa [Fo.len] using hj)
theorem kidsL_12 {op : Int} {ks : List Nat} (hkl : kidsL op = some ks) : ∀ x ∈ ks, x = 1 ∨ x = 2 := by
  intro x hx
  unfold kidsL at hkl
  split at hkl
  · cases hkl; cases hx
  · split at hkl
    · cases hkl; simp at hx; omega
    · split at hkl
      · cases hkl; simp at hx; omega
      · split at hkl
        · cases hkl; simp at hx; omega
        · cases hkl
theorem sh1_get {h : Hd} {k : Fo} {s : Nat} (hs : sh1 h k s = true) {j : Nat} (hj : j < k.len) : ∃ s, sh1 (k.get j).1 (k.get j).2 s = true ∧ (s = 1 ∨ s = 2) := by
  obtain ⟨ks, h1, _, _, h4⟩ := sh1_kids hs
  exact shapes_get h4 (kidsL_12 h1) hj
theorem sh1_nop {h : Hd} {k : Fo} {s : Nat} (hs : sh1 h k s = true) (hop : h.op ≠ 11) : canT h k = (h, mapG canT k) := by
  obtain ⟨ks, h1, h2, h3, h4⟩ := sh1_kids hs
  rw [mapG_canT]
  have h12 := kidsL_sort h1
  rcases h12 with e | e
  · exact canT_type (sh1_of h1 e h3 h4)
  · have hk : k = .nil := by
      have e2 : ks = [] := by
        unfold kidsL at h1
        split at h1
        · exact (Option.some.inj h1).symm
        · unfold sortO at e
          split at e
          · cases e
          · exfalso; revert h1; (repeat (first | rw [if_neg (by omega)] | rw [if_neg hop])); intro h1; cases h1
      subst e2
      exact shapes_nil h4
    subst hk
    rw [canT_nop hop]
    rw [show topS h .nil = .nil from rfl, canL_nil]; rfl

/-- A field whose type has been put anew. -/
def reF (f : Fld) (T : Hd × Fo) (q : Option Addr) (cap : Nat) : Fld := ⟨f.name, T.1, q, T.2, cap⟩
theorem setCell_same {W : World} {g o : Nat} {cs : Array Value} {t : TypeId} {v : Value} (h : W.heap[g]? = some (.cells cs t (0, 0))) (hc : cs[o]? = some v) : W.setCell ⟨g, o, none⟩ v = W := by
  have hlt := (Array.getElem?_eq_some_iff.1 h).1
  have e : (W.setCell ⟨g, o, none⟩ v).heap = W.heap := by
    apply Array.ext_getElem?
    intro i
    by_cases hi : i = g
    · subst hi
      rw [row_set h o v, h]
      congr 2
      apply Array.ext_getElem?
      intro x
      rw [Array.getElem?_setIfInBounds]
      split
      · next e => subst e; rw [hc]; split <;> simp_all
      · rfl
    · exact Below.heap_setCell _ _ _ i hi
  cases W
  simp only [World.setCell] at e ⊢
  simpa using e
theorem set5_four {W : World} {B g cap : Nat} {fs : List Fld} (h : FlAt W B g cap fs) {i : Nat} (hi : i < fs.length) (f : Fld) (hn : f.name = fs[i].name) :
    World.set5 W g (i * 5) f = (((W.setCell ⟨g, i * 5 + 1, none⟩ (.int .u8 f.h.op)).setCell ⟨g, i * 5 + 2, none⟩ (.string f.h.name)).setCell ⟨g, i * 5 + 3, none⟩ (.int .i64 f.h.n)).setCell ⟨g, i * 5 + 4, none⟩ (.slice f.q f.k.len f.cap) := by
  obtain ⟨cur, _, hg, _⟩ := h.parts
  have hc := (h.cells hi).1
  simp only [World.cell?, hg] at hc
  unfold World.set5
  rw [setCell_same hg (v := .string f.name) (by rw [hn]; simpa using hc)]
end Go.Proofs.Ytcjhgefkbnbmnaa

/- The document's Canon: a row's fields, one by one. -/
namespace Go.Proofs.Ytcjhgefkbnbmnaa
open Go.RowKit LM
set_option linter.unusedVariables false

theorem rowF_nil {h : Hd} {k : Fo} (hs : sh1 h k 2 = true) : (rowF h k).2.2 = .nil := by
  obtain ⟨h1, h2⟩ := rowF_sh k h hs
  obtain ⟨ks, e1, e2, e3, e4⟩ := sh1_kids h2
  have hop : (rowF h k).2.1.op ≠ 11 := rowF_tail k h hs
  have e : ks = [] := by
    unfold kidsL at e1
    split at e1
    · exact (Option.some.inj e1).symm
    · unfold sortO at e2
      split at e2
      · cases e2
      · exfalso; revert e1; (repeat (first | rw [if_neg (by omega)] | rw [if_neg hop])); intro e1; cases e1
  subst e
  exact shapes_nil e4

/-- The blocks in which what has been put lies. -/
def Sx (w : World) (a : Option Addr) (n cp : Nat) (b : Nat) : Prop := w.heap.size + 2 ≤ b ∧ (Value.slice a n cp).ownBlock ≠ some b

structure RwI (w : World) (gs : List Fld) (th : Hd) (tk : Fo) (tq : Option Addr) (tc : Nat) (a : Option Addr) (n cp bT j : Nat) (wr : World) : Prop where
  le : j ≤ n
  ds : ∃ ds : List Fld, wr.ownsRow (w.heap.size + 2) 40 5 (.slice a n cp) n (fldCells ds) ∧ ds.length = n ∧
      (∀ i (h1 : i < ds.length) (h2 : i < gs.length), ds[i].name = gs[i].name ∧ (i < j → (ds[i].h, ds[i].k) = canT gs[i].h gs[i].k ∧ DpS (Sx w a n cp) wr ds[i].q ds[i].cap ds[i].k) ∧ (j ≤ i → ds[i] = gs[i]))
  res : wr.heap[w.heap.size + 1]? = some (.cells #[.int .u8 0, .string ⟨#[]⟩, .int .i64 0, .slice none 0 0] 25 (0, 0))
  tb : wr.heap[bT]? = some (.cells #[.int .u8 th.op, .string th.name, .int .i64 th.n, .slice tq tk.len tc] 25 (0, 0))
  below : Below w.heap.size w wr
  room : w.heap.size + 2 ≤ bT

theorem RwI.start {w w1 : World} {gs : List Fld} {th : Hd} {tk : Fo} {tq : Option Addr} {tc : Nat} {a : Option Addr} {n cp : Nat} (hl : gs.length = n) (hown : w1.ownsRow (w.heap.size + 2) 40 5 (.slice a n cp) n (fldCells gs))
    (hres : w1.heap[w.heap.size + 1]? = some (.cells #[.int .u8 0, .string ⟨#[]⟩, .int .i64 0, .slice none 0 0] 25 (0, 0))) (hb : Below w.heap.size w w1) (hz : w.heap.size + 2 ≤ w1.heap.size) :
    RwI w gs th tk tq tc a n cp w1.heap.size 0 (w1.alloc (.cells #[.int .u8 th.op, .string th.name, .int .i64 th.n, .slice tq tk.len tc] 25)) :=
  ⟨Nat.zero_le _, ⟨gs, hown.alloc _, hl, fun i h1 h2 => ⟨rfl, fun h => absurd h (Nat.not_lt_zero _), fun _ => rfl⟩⟩, ((below_box w1 _).block _ (by omega)).trans hres, World.alloc_heap_new w1 _, hb.alloc hb.size _, hz⟩

theorem RwI.go {w : World} {gs : List Fld} {th : Hd} {tk : Fo} {tq : Option Addr} {tc g n cp bT j : Nat} {wr w2 : World} {q2 : Option Addr} {cap2 : Nat} (hI : RwI w gs th tk tq tc (some ⟨g, 0, none⟩) n cp bT j wr) (hn : gs.length = n) (hj : j < n) (hjg : j < gs.length)
    (hb : Below wr.heap.size wr w2) (hk : DpS (fun b => wr.heap.size ≤ b) w2 q2 cap2 (canT gs[j].h gs[j].k).2) :
    RwI w gs th tk tq tc (some ⟨g, 0, none⟩) n cp bT (j + 1) ((((w2.setCell ⟨g, j * 5 + 1, none⟩ (.int .u8 (canT gs[j].h gs[j].k).1.op)).setCell ⟨g, j * 5 + 2, none⟩ (.string (canT gs[j].h gs[j].k).1.name)).setCell ⟨g, j * 5 + 3, none⟩ (.int .i64 (canT gs[j].h gs[j].k).1.n)).setCell ⟨g, j * 5 + 4, none⟩ (.slice q2 (canT gs[j].h gs[j].k).2.len cap2)) := by
  obtain ⟨ds, hown, hdl, hds⟩ := hI.ds
  have hgl := hown.lt g rfl
  have hfl : FlAt wr (w.heap.size + 2) g cp ds := by unfold FlAt; rw [hdl]; exact hown
  have hfl2 : FlAt w2 (w.heap.size + 2) g cp ds := hfl.kept hb
  have hjd : j < ds.length := by omega
  have hd := (hds j hjd hjg).2.2 (Nat.le_refl _)
  have h5 := set5_four hfl2 hjd (reF gs[j] (canT gs[j].h gs[j].k) q2 cap2) (by rw [hd]; rfl)
  have hset := hfl2.set hjd (reF gs[j] (canT gs[j].h gs[j].k) q2 cap2)
  have hgr := set5_grown w2 g (j * 5) (reF gs[j] (canT gs[j].h gs[j].k) q2 cap2)
  have e : (((w2.setCell ⟨g, j * 5 + 1, none⟩ (.int .u8 (canT gs[j].h gs[j].k).1.op)).setCell ⟨g, j * 5 + 2, none⟩ (.string (canT gs[j].h gs[j].k).1.name)).setCell ⟨g, j * 5 + 3, none⟩ (.int .i64 (canT gs[j].h gs[j].k).1.n)).setCell ⟨g, j * 5 + 4, none⟩ (.slice q2 (canT gs[j].h gs[j].k).2.len cap2) = World.set5 w2 g (j * 5) (reF gs[j] (canT gs[j].h gs[j].k) q2 cap2) := h5.symm
  rw [e]
  generalize World.set5 w2 g (j * 5) (reF gs[j] (canT gs[j].h gs[j].k) q2 cap2) = W3 at *
  clear e h5
  have s2 := hb.size
  have s3 := hgr.size
  have hob : (Value.slice (some ⟨g, 0, none⟩) n cp).ownBlock = some g := rfl
  have hbT : bT ≠ g := fun e => by
    obtain ⟨cur, _, hc, _⟩ := hfl.parts
    have := hI.tb
    rw [e, hc] at this
    cases this
  have hbl := (Array.getElem?_eq_some_iff.1 hI.tb).1
  have hrl := (Array.getElem?_eq_some_iff.1 hI.res).1
  have kp : ∀ b, b < wr.heap.size → b ≠ g → W3.heap[b]? = wr.heap[b]? := fun b hb' hne => (hgr.block b (by omega) (fun e => hne (Option.some.inj e))).trans (hb.block b hb')
  refine ⟨hj, ⟨ds.set j (reF gs[j] (canT gs[j].h gs[j].k) q2 cap2), ?_, by rw [List.length_set]; exact hdl, fun i h1 h2 => ?_⟩, (kp _ hrl (by omega)).trans hI.res, (kp _ hbl hbT).trans hI.tb, ?_, hI.room⟩
  · have := hset
    unfold FlAt at this
    rw [List.length_set, hdl] at this
    exact this
  · have h1' : i < ds.length := by simpa using h1
    by_cases hij : i = j
    · subst hij
      rw [List.getElem_set_self]
      refine ⟨rfl, fun _ => ⟨rfl, ?_⟩, fun h => by omega⟩
      have hx : DpS (fun b => wr.heap.size ≤ b) W3 q2 cap2 (canT gs[i].h gs[i].k).2 := hk.grown s3 (fun b h3 h4 => hgr.block b h4 (fun e => by have := Option.some.inj e; omega))
      exact hx.mono (fun b h3 => ⟨by have := hI.room; omega, fun e => by rw [hob] at e; have := Option.some.inj e; omega⟩)
    · rw [List.getElem_set_ne (by omega)]
      obtain ⟨e1, e2, e3⟩ := hds i h1' h2
      refine ⟨e1, fun h => ?_, fun h => e3 (by omega)⟩
      obtain ⟨e4, e5⟩ := e2 (by omega)
      exact ⟨e4, e5.grown (by omega) (fun b h3 h4 => kp b h4 (fun e => h3.2 (by rw [hob, e])))⟩
  · exact (hI.below.trans (hb.mono hI.below.size)).grown hgr (by have := hI.below.size; omega) (fun r e => by have := Option.some.inj e; omega)

theorem RwI.of {w : World} {gs : List Fld} {th : Hd} {tk : Fo} {tq : Option Addr} {tc : Nat} {a : Option Addr} {n cp bT : Nat} {wr : World} {T : Hd × Fo} (hI : RwI w gs th tk tq tc a n cp bT n wr) (hn : gs.length = n) (hm : n ≤ 1099511627776)
    (htk : tk = .nil) (htc : tc ≤ maxLen) (hT : rowT (th, tk) (gs.map fun f => (f.name, canT f.h f.k)) = T) :
    Calls Try.prog 67 #[.slice a n cp, .agg #[.int .u8 th.op, .string th.name, .int .i64 th.n, .slice tq tk.len tc]] wr (OfPost (Sx w a n cp) wr T) := by
  obtain ⟨ds, hown, hdl, hds⟩ := hI.ds
  have hown' := hown
  rw [← hdl] at hown'
  obtain ⟨a', c', e1, hf⟩ := own_fdSl hown'
  rw [hdl] at e1
  cases e1
  have key : ds.map Fld.key = gs.map fun f => (f.name, canT f.h f.k) := by
    apply List.ext_getElem
    · simp [hdl, hn]
    · intro i h1 h2
      have h1' : i < ds.length := by simpa using h1
      have h2' : i < gs.length := by simpa using h2
      obtain ⟨e1, e2, _⟩ := hds i h1' h2'
      have e3 := (e2 (by omega)).1
      simp only [List.getElem_map, Fld.key, e1, e3]
  have := Of_dep (Sx w a n cp) ds a cp th tk tq tc wr hf (by rw [htk]; exact DpS.nil htc) (fun f hf' => by
    obtain ⟨i, hi, rfl⟩ := List.getElem_of_mem hf'
    exact ((hds i hi (by omega)).2.1 (by omega)).2) (by rw [htk]; exact ⟨Nat.zero_le _, htc⟩) (by omega)
  rw [key, hT, hdl] at this
  exact this

theorem rw_end {w wr w3 : World} {a : Option Addr} {n cp : Nat} {T : Hd × Fo} {q' : Option Addr} {c' : Nat} (hbw : Below w.heap.size w wr) (hz : w.heap.size + 2 ≤ wr.heap.size) (hd : DpS (fun b => Sx w a n cp b ∨ wr.heap.size ≤ b) w3 q' c' T.2) (hb : Below wr.heap.size wr w3) (v0 v1 v2 v3 : Value) :
    CnPost w T (.returned (.agg #[.int .u8 T.1.op, .string T.1.name, .int .i64 T.1.n, .slice q' T.2.len c'])) (World.set4 w3 (w.heap.size + 1) v0 v1 v2 v3) := by
  have hg := set4_grown w3 (w.heap.size + 1) v0 v1 v2 v3
  have b3 := hbw.trans (hb.mono hbw.size)
  refine ⟨q', c', rfl, ?_, b3.grown hg b3.size (fun r e => by have := Option.some.inj e; omega)⟩
  refine DpS.mono (S := fun b => w.heap.size + 2 ≤ b) ?_ (fun b h => by omega)
  refine DpS.grown (DpS.mono hd (fun b h => ?_)) hg.size (fun b h1 h2 => hg.block b h2 (fun e => by have := Option.some.inj e; omega))
  rcases h with h | h
  · exact h.1
  · show _ ≤ b; omega

set_option maxRecDepth 100000 in
set_option maxHeartbeats 2000000 in
theorem refCanon_any (m : Nat) : ∀ (h : Hd) (k : Fo) (q : Option Addr) (cap : Nat) (w : World) (s : Nat), k.size < m → 1 + k.size ≤ 1099511627776 → sh1 h k s = true → (s = 1 ∨ s = 2) → SlF w q cap k →
    Calls Try.prog 21 #[.agg #[.int .u8 h.op, .string h.name, .int .i64 h.n, .slice q k.len cap]] w (CnPost w (canT h k)) := by
  induction m with
  | zero => intro h k q cap w s hm; omega
  | succ m ih =>
    intro h k q cap w s hm hsz hsh h12 hsl
    by_cases hop : h.op = 11
    · have hs2 : sh1 h k 2 = true := by
        obtain ⟨_, _, e, _, _⟩ := sh1_kids hsh
        have : s = 2 := by rw [← e, hop]; rfl
        rwa [this] at hsh
      have hok : rowOK h k := shapes_rowOK k h hs2
      obtain ⟨fs, th, tk, tq, tc, hc, he⟩ := RowCh.of k h q cap hok hsl
      have hmem := hc.mem
      have hsz0 := rowF_size k h
      have hfsh := (rowF_sh k h hs2).1
      have hnil := rowF_nil hs2
      have hcan := canT_row hs2
      have htc := hmem.2.cm
      rw [he] at hsz0 hfsh hnil hcan
      simp only at hnil
      have hlen : fs.length ≤ k.size := hc.len
      have hT : rowT (th, tk) ((insF fs).map fun f => (f.name, canT f.h f.k)) = canT h k := by
        rw [hcan, ← insF_keys, List.map_map]; rfl
      have hgs : ∀ f ∈ insF fs, SlF w f.q f.cap f.k ∧ sh1 f.h f.k 1 = true ∧ f.k.size + 2 ≤ k.size := fun f hf => by
        have hf' := (insF_perm fs).mem_iff.1 hf
        refine ⟨hmem.1 f hf', (hfsh (f.name, f.h, f.k) (List.mem_map.2 ⟨f, hf', rfl⟩)).2, ?_⟩
        have : f.k.size + 2 ≤ ((fs.map fun f => (f.name, f.h, f.k)).map fun x => x.2.2.size + 2).sum := by
          rw [List.map_map]
          exact le_sum (List.mem_map.2 ⟨f, hf', rfl⟩)
        simp only at hsz0; omega
      have hgl := length_insF fs
      have HF := Lib.hid fun w' (hb : Below w.heap.size w w') => Fields_any h k q cap w' fs th tk tq tc (hc.under hb) (by omega)
      have HIH : Hid (∀ (j : Nat) (f : Fld) (w' : World), (insF fs)[j]? = some f → Below w.heap.size w w' → Calls Try.prog 21 #[.agg #[.int .u8 f.h.op, .string f.h.name, .int .i64 f.h.n, .slice f.q f.k.len f.cap]] w' (CnPost w' (canT f.h f.k))) := Lib.hid fun j f w' hj hb => by
        obtain ⟨h1, h2, h3⟩ := hgs _ (List.mem_of_getElem? hj)
        exact ih _ _ _ _ w' 1 (by omega) (by omega) h2 (.inl rfl) (h1.below hb)
      have hop' : (h.op == 11) = true := by simpa using hop
      have hgn : (insF fs).length ≤ 1099511627776 := by omega
      have HT := Lib.hid hT
      have HNIL := Lib.hid hnil
      have HTC := Lib.hid htc
      clear hc he hmem hsz0 hfsh hnil hcan htc hT hgs hsl hsh hs2 hok ih hm hop hsz hlen h12
      unfold FlatPost at HF
      rw [← hgl] at HF
      generalize canT h k = T at *
      generalize hgd : insF fs = gs at *
      have HGL : Hid (gs.length = gs.length) := Lib.hid rfl
      clear hgl hgd
      go_enter Try.func21, Try.ntmps21
      go_wp2_with fail
      refine (HF.out _ ((below_box _ _).alloc (by simp) _)).mono ?_
      rintro e w1 ⟨v, rfl, hown, hb1⟩
      obtain ⟨hbw, hbx, hres⟩ := two_boxes hb1
      obtain ⟨a, cp, rfl⟩ := own_val hown
      have HST := Lib.hid (RwI.start (gs := gs) (th := th) (tk := tk) (tq := tq) (tc := tc) rfl (by simpa using hown) hres hbw (by have := hb1.size; simpa using this))
      clear hb1 hown hbw hbx hres
      generalize hnd : gs.length = n at *
      have HN := Lib.hid hnd
      clear hnd
      go_wp2
      go_loopw [5] (fun i wr => ∃ j : Nat, i = .int .i64 j ∧ RwI w gs th tk tq tc a n cp w1.heap.size j wr) (fun i _ => n - (intOf i).toNat)
      case atStart => exact ⟨0, rfl, HST.out⟩
      case round =>
        obtain ⟨j, rfl, hI⟩ := hrel
        have hjn := hI.le
        have HI := Lib.hid hI
        by_cases hj : j < n
        · have hjg : j < gs.length := by rw [HN.out]; exact hj
          obtain ⟨ds, hown, hdl, hds⟩ := hI.ds
          obtain ⟨g, c', cur, e, _, hgc, _⟩ := own_some hown (by omega)
          cases e
          have hglt := (Array.getElem?_eq_some_iff.1 hgc).1
          have hjd : j < ds.length := by omega
          have hfl : FlAt wr (w.heap.size + 2) g cp ds := by unfold FlAt; rw [hdl]; exact hown
          have hd := (hds j hjd hjg).2.2 (Nat.le_refl _)
          obtain ⟨c0, c1, c2, c3, c4⟩ := hfl.cells hjd
          rw [hd] at c1 c2 c3 c4
          have HC := Lib.hid (HIH.out j gs[j] wr (List.getElem?_eq_getElem hjg) hI.below)
          have HGO := Lib.hid (fun (w2 : World) (q2 : Option Addr) (cap2 : Nat) (hb : Below wr.heap.size wr w2) (hk : DpS (fun b => wr.heap.size ≤ b) w2 q2 cap2 (canT gs[j].h gs[j].k).2) => hI.go HN.out hj hjg hb hk)
          have HFL := Lib.hid hfl
          have hcm : n ≤ 1099511627776 := hgn
          clear hI hown hdl hds hgc hjd hd c0 hfl
          generalize gs[j] = f at *
          generalize canT f.h f.k = F at *
          have hj0 : (0 : Int) ≤ (j : Int) := by omega
          have hjL : (j : Int) < (n : Int) := by omega
          go_wp2_with (refine HC.out.mono ?_; rintro e w2 ⟨q2, cap2, rfl, hk2, hb2⟩; have k1 := (HFL.out.kept hb2).frozen; have kk := bcell hb2; have m1 := (kk.1 g (j * 5 + 1) hglt).trans c1; have m2 := (kk.1 g (j * 5 + 2) hglt).trans c2; have m3 := (kk.1 g (j * 5 + 3) hglt).trans c3; have m4 := (kk.1 g (j * 5 + 4) hglt).trans c4; have f1 := k1 (j * 5 + 1); have f2 := k1 (j * 5 + 2); have f3 := k1 (j * 5 + 3); have f4 := k1 (j * 5 + 4); have HG := Lib.hid (HGO.out w2 q2 cap2 hb2 hk2); clear hk2 hb2 k1 kk)
          go_roundw
          case rel => exact ⟨j + 1, by go_num, HG.out⟩
          case measure => simp [intOf]; omega
        · have hje : j = n := by omega
          subst hje
          obtain ⟨t0, t1, t2, t3, _⟩ := row4 hI.tb
          have hrl := (Array.getElem?_eq_some_iff.1 hI.res).1
          have HO := Lib.hid (hI.of HN.out hgn HNIL.out HTC.out HT.out)
          have hlt : ¬ ((j : Int) < (j : Int)) := by omega
          clear hI hj
          go_wp2_with (refine HO.out.mono ?_; rintro e w3 ⟨q', c', rfl, hd, hb3⟩; obtain ⟨y0, y1, y2, y3, z0, z1, z2, z3⟩ := row4 ((hb3.block _ hrl).trans HI.out.res); have HE := Lib.hid (rw_end HI.out.below (by have := HI.out.room; have := (Array.getElem?_eq_some_iff.1 HI.out.tb).1; omega) hd hb3 (.int .u8 T.1.op) (.string T.1.name) (.int .i64 T.1.n) (.slice q' T.2.len c')); clear hd hb3)
          exact bodyPost_ret (v := .agg #[.int .u8 T.1.op, .string T.1.name, .int .i64 T.1.n, .slice q' T.2.len c']) (by simp [results, Try.results21, go_sem, y0, y1, y2, y3]) rfl HE.out
    · obtain ⟨i0, hi, hz0, hz1, hz2⟩ := info_parts info25
      rw [sh1_nop hsh hop]
      have HST := Lib.hid (MpI.start w h h k q cap canT)
      have HIH : Hid (∀ j, j < k.len → ∀ (q' : Option Addr) (cap' : Nat) (w' : World), SlF w' q' cap' (k.get j).2 → Calls Try.prog 21 #[.agg #[.int .u8 (k.get j).1.op, .string (k.get j).1.name, .int .i64 (k.get j).1.n, .slice q' (k.get j).2.len cap']] w' (CnPost w' (canT (k.get j).1 (k.get j).2))) :=
        Lib.hid fun j hj q' cap' w' h1 => by
          obtain ⟨s', hs', h12'⟩ := sh1_get hsh hj
          exact ih _ _ q' cap' w' s' (by have := Fo.get_size hj; omega) (by have := Fo.get_size hj; omega) hs' h12' h1
      have hlc := hsl.lc
      have hcm := hsl.cm
      unfold maxLen at hcm
      have hlk := Fo.len_le_size k
      have HSL := Lib.hid hsl
      have hop' : (h.op == 11) = false := by simpa using hop
      have HL : Hid ((mapG canT k).len = k.len) := Lib.hid (mapG_len _ _)
      clear hsl ih hm hsh hop h12
      generalize hLd : k.len = L at *
      have HLD := Lib.hid hLd
      clear hLd
      go_enter Try.func21, Try.ntmps21
      go_wp2
      go_loopw [7] (fun i wr => ∃ (j : Nat) (v : Value), i = .int .i64 j ∧ MpI w h h k q L cap canT w.heap.size (w.heap.size + 1) (w.heap.size + 2) (w.heap.size + 3) j v wr) (fun i _ => L - (intOf i).toNat)
      case atStart => exact ⟨0, _, rfl, HST.out.2⟩
      case round =>
        obtain ⟨j, v, rfl, hI⟩ := hrel
        obtain ⟨a0, a1, a2, a3, _⟩ := row4 hI.bt
        obtain ⟨c0, c1, c2, c3, f0, f1, f2, f3⟩ := row4 hI.bo
        have hjL := hI.le
        obtain ⟨cs, hown, hcells⟩ := hI.own
        have HI := Lib.hid hI
        have HO := Lib.hid hown
        have HCS := Lib.hid hcells
        clear hI hown hcells
        by_cases hj : j < L
        · have hjk : j < k.len := by rw [HLD.out]; exact hj
          obtain ⟨b, o, rfl, hfo⟩ := ((HSL.out.below HI.out.below).at_ (Nat.lt_of_le_of_lt (Nat.zero_le _) hjk))
          obtain ⟨q1, cap1, hd1, hs1⟩ := hfo.get j hjk
          have d0 := hd1.c0
          have d1 := hd1.c1
          have d2 := hd1.c2
          have d3 := hd1.c3
          have HC := Lib.hid fun w' hb => HIH.out j hj q1 cap1 w' (hs1.below (w := wr) hb)
          have HBD : Hid (Below wr.heap.size wr wr.drew) := Lib.hid (Below.refl _ _).drew
          clear hd1 hfo hs1
          have hLm : L ≤ 1099511627776 := by omega
          have HV := Lib.hid HO.out.lt
          have h9lt : w.heap.size + 2 < wr.heap.size := by have := HI.out.room; omega
          go_wp2
          go_region_law (first
            | (refine step_append_at rfl (.tmp 50) (.tmp 57) 23 rfl (w.heap.size + 3) 25 i0 _ 4 56 Try.underlying23 hi hz0 hz1 hz2 rfl (by decide) _ _ _ rfl (World.ownsRow.alloc HO1.out _) ⟨w1.heap.size, 0, none⟩ 1 1 [.int .u8 (canT (k.get j).1 (k.get j).2).1.op, .string (canT (k.get j).1 (k.get j).2).1.name, .int .i64 (canT (k.get j).1 (k.get j).2).1.n, .slice q2 (canT (k.get j).1 (k.get j).2).2.len cap2] rfl rfl (cells_new w1 [.int .u8 (canT (k.get j).1 (k.get j).2).1.op, .string (canT (k.get j).1 (k.get j).2).1.name, .int .i64 (canT (k.get j).1 (k.get j).2).1.n, .slice q2 (canT (k.get j).1 (k.get j).2).2.len cap2] 25) (kid_one _ _ _ _ _ _) (kid_bd hj hLm) (kid_bd2 hj hLm) (kid_bd3 HS1.out) ?_; intro v' w2 hown2 hg2 hat2; obtain ⟨g0, g1, g2, g3, k0, k1, k2, k3⟩ := row4 (HI.out.nine HST.out.1 HV.out HB1.out hg2); have HG := Lib.hid (HI.out.go HST.out.1 HLD.out hj HV.out HCS.out HB1.out HK2.out hown2 hg2 hat2); obtain ⟨gg, cg, cur, rfl, _⟩ := own_some hown2 (by omega); clear hown2 hg2 hat2)
            | (go_simp; go_at_call 21; refine (HC.out _ HBD.out).mono ?_; rintro e w1 ⟨q2, cap2, rfl, hk2, hb1⟩; obtain ⟨m0, m1, m2, m3, _⟩ := row4 ((hb1.block (w.heap.size + 2) h9lt).trans HI.out.bo); have HB1 := Lib.hid hb1; have HK2 := Lib.hid hk2; have HO1 := Lib.hid (own_grown (w := wr.drew) HO.out hb1); have HS1 : Hid (w.heap.size + 3 ≤ w1.heap.size) := Lib.hid (Nat.le_trans HI.out.room hb1.size); have h9l1 : w.heap.size + 2 < w1.heap.size := HS1.out; clear hk2 hb1))
          all_goals go_wp2
          all_goals exact ⟨⟨j + 1, _, by go_num, HG.out⟩, by simp [intOf]; omega⟩
        · have hje : j = L := by omega
          have HJ := Lib.hid hje
          clear hje
          have hI2 := HI.out
          rw [HJ.out] at hI2
          obtain ⟨q', cap', rfl, hfin⟩ := hI2.fin HST.out.1 HLD.out
          obtain ⟨y0, y1, y2, y3, z0, z1, z2, z3⟩ := row4 hI2.br
          have HF := Lib.hid (hfin (.int .u8 h.op) (.string h.name) (.int .i64 h.n) (.slice q' L cap'))
          clear hI2 hfin
          go_wp2
          exact bodyPost_ret (v := .agg #[.int .u8 h.op, .string h.name, .int .i64 h.n, .slice q' L cap']) (by simp [results, Try.results21, go_sem, y0, y1, y2, y3]) rfl HF.out
end Go.Proofs.Ytcjhgefkbnbmnaa
