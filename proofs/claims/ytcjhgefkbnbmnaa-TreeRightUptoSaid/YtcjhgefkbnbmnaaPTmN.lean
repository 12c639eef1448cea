/- What an Op asks for. -/
import Derived.Test.YtcjhgefkbnbmnaaPTmM
namespace Go.Proofs.Ytcjhgefkbnbmnaa
open Go.RowKit LM
set_option linter.unusedVariables false

/-- The parts that an Op asks for. -/
structure Pts where
  name : Bool
  arg : Bool
  sign : Bool
  most : Int
  ann : Int
  kids : Int
abbrev Pts.enc (p : Pts) : Array Value := #[.bool p.name, .bool p.arg, .bool p.sign, .int .i64 p.most, .int .u8 p.ann, .int .i64 p.kids]
def ptsZ : Pts := ⟨false, false, false, 0, 0, 0⟩
def ptsT (op : Int) : Option Pts :=
  if op = 32 then some ⟨true, false, false, 0, 0, 0⟩ else
  if op = 33 then some ⟨false, false, false, 9223372036854775807, 0, 0⟩ else
  if op = 34 then some ⟨false, false, false, 1, 0, 0⟩ else
  if op = 35 then some ⟨false, true, false, 0, 1, 1⟩ else
  if op = 36 then some ⟨true, true, false, 0, 1, 1⟩ else
  if op = 37 then some ⟨false, false, false, 0, 0, 2⟩ else
  if op = 38 then some ⟨true, false, false, 0, 0, 2⟩ else
  if op = 39 then some ⟨false, false, false, 0, 0, 3⟩ else
  if op = 40 then some ⟨false, false, true, 0, 0, 2⟩ else
  if op = 41 then some ⟨false, false, false, 0, 0, 0⟩ else
  if op = 42 then some ⟨true, false, false, 0, 0, 2⟩ else
  if op = 43 then some ⟨true, false, false, 0, 0, 1⟩ else
  if op = 44 then some ⟨true, false, false, 0, 0, 1⟩ else
  if op = 45 then some ⟨true, false, false, 0, 0, 2⟩ else
  if op = 46 then some ⟨true, false, false, 0, 0, 1⟩ else
  if op = 47 then some ⟨true, false, false, 0, 0, 1⟩ else
  if op = 48 then some ⟨false, false, false, 0, 0, 0⟩ else
  if op = 49 then some ⟨true, true, false, 0, 0, 1⟩ else
  if op = 50 then some ⟨false, true, false, 0, 0, 1⟩ else
  if op = 51 then some ⟨false, false, false, 0, 2, 1⟩ else
  none
theorem ptsT_no {op : Int} (h : ∀ k : Int, 32 ≤ k → k ≤ 51 → op ≠ k) : ptsT op = none := by
  unfold ptsT
  rw [if_neg (h 32 (by omega) (by omega))]
  rw [if_neg (h 33 (by omega) (by omega))]
  rw [if_neg (h 34 (by omega) (by omega))]
  rw [if_neg (h 35 (by omega) (by omega))]
  rw [if_neg (h 36 (by omega) (by omega))]
  rw [if_neg (h 37 (by omega) (by omega))]
  rw [if_neg (h 38 (by omega) (by omega))]
  rw [if_neg (h 39 (by omega) (by omega))]
  rw [if_neg (h 40 (by omega) (by omega))]
  rw [if_neg (h 41 (by omega) (by omega))]
  rw [if_neg (h 42 (by omega) (by omega))]
  rw [if_neg (h 43 (by omega) (by omega))]
  rw [if_neg (h 44 (by omega) (by omega))]
  rw [if_neg (h 45 (by omega) (by omega))]
  rw [if_neg (h 46 (by omega) (by omega))]
  rw [if_neg (h 47 (by omega) (by omega))]
  rw [if_neg (h 48 (by omega) (by omega))]
  rw [if_neg (h 49 (by omega) (by omega))]
  rw [if_neg (h 50 (by omega) (by omega))]
  rw [if_neg (h 51 (by omega) (by omega))]

theorem op_cases (op : Int) : (∃ k : Nat, 32 ≤ k ∧ k ≤ 51 ∧ op = k) ∨ ∀ k : Int, 32 ≤ k → k ≤ 51 → op ≠ k := by
  by_cases h : 32 ≤ op ∧ op ≤ 51
  · exact .inl ⟨op.toNat, by omega, by omega, by omega⟩
  · exact .inr fun k h1 h2 e => h (by omega)

theorem parts_res {tmps : Array Value} {w : World} {v0 v1 v2 v3 v4 v5 r : Value} (h2 : tmps.getD 2 undef = .pointer (some ⟨w.heap.size, 0, none⟩)) (h3 : tmps.getD 3 undef = r) :
    (results Try.f97 tmps).run Try.prog (w.alloc (.cells #[v0, v1, v2, v3, v4, v5] 111)) = .ok (.tuple #[.agg #[v0, v1, v2, v3, v4, v5], r]) (w.alloc (.cells #[v0, v1, v2, v3, v4, v5] 111)) := by
  have e := World.alloc_heap_new w (.cells #[v0, v1, v2, v3, v4, v5] 111)
  have y : ∀ i, (w.alloc (.cells #[v0, v1, v2, v3, v4, v5] 111)).cell? ⟨w.heap.size, i, none⟩ = #[v0, v1, v2, v3, v4, v5][i]? := fun i => by unfold World.cell?; simp only; rw [e]; rfl
  have h2' : tmps[2]?.getD undef = .pointer (some ⟨w.heap.size, 0, none⟩) := by simpa using h2
  have h3' : tmps[3]?.getD undef = r := by simpa using h3
  simp [results, Try.results97, go_sem, h2', h3', y]

set_option maxRecDepth 100000 in
set_option maxHeartbeats 4000000 in
theorem partsOf_any (op : Int) (w : World) :
    Calls Try.prog 97 #[.int .u8 op] w fun e w' => e = .returned (.tuple #[.agg ((ptsT op).getD ptsZ).enc, .bool (ptsT op).isSome]) ∧ Below w.heap.size w w' := by
  rcases op_cases op with ⟨k, h1, h2, rfl⟩ | hno
  · have hk : k = 32 ∨ k = 33 ∨ k = 34 ∨ k = 35 ∨ k = 36 ∨ k = 37 ∨ k = 38 ∨ k = 39 ∨ k = 40 ∨ k = 41 ∨ k = 42 ∨ k = 43 ∨ k = 44 ∨ k = 45 ∨ k = 46 ∨ k = 47 ∨ k = 48 ∨ k = 49 ∨ k = 50 ∨ k = 51 := by omega
    clear h1 h2
    rcases hk with rfl | rfl | rfl | rfl | rfl | rfl | rfl | rfl | rfl | rfl | rfl | rfl | rfl | rfl | rfl | rfl | rfl | rfl | rfl | rfl
    all_goals
      go_enter Try.func97, Try.ntmps97
      go_wp2
      exact bodyPost_ret (parts_res rfl rfl) rfl ⟨by rfl, below_box _ _⟩
  · rw [ptsT_no hno]
    have HB := Lib.hid hno
    have e32 : (op == 32) = false := by rw [beq_eq_false_iff_ne]; exact HB.out 32 (by omega) (by omega)
    have e33 : (op == 33) = false := by rw [beq_eq_false_iff_ne]; exact HB.out 33 (by omega) (by omega)
    have e34 : (op == 34) = false := by rw [beq_eq_false_iff_ne]; exact HB.out 34 (by omega) (by omega)
    have e35 : (op == 35) = false := by rw [beq_eq_false_iff_ne]; exact HB.out 35 (by omega) (by omega)
    have e36 : (op == 36) = false := by rw [beq_eq_false_iff_ne]; exact HB.out 36 (by omega) (by omega)
    have e37 : (op == 37) = false := by rw [beq_eq_false_iff_ne]; exact HB.out 37 (by omega) (by omega)
    have e38 : (op == 38) = false := by rw [beq_eq_false_iff_ne]; exact HB.out 38 (by omega) (by omega)
    have e39 : (op == 39) = false := by rw [beq_eq_false_iff_ne]; exact HB.out 39 (by omega) (by omega)
    have e40 : (op == 40) = false := by rw [beq_eq_false_iff_ne]; exact HB.out 40 (by omega) (by omega)
    have e41 : (op == 41) = false := by rw [beq_eq_false_iff_ne]; exact HB.out 41 (by omega) (by omega)
    have e42 : (op == 42) = false := by rw [beq_eq_false_iff_ne]; exact HB.out 42 (by omega) (by omega)
    have e43 : (op == 43) = false := by rw [beq_eq_false_iff_ne]; exact HB.out 43 (by omega) (by omega)
    have e44 : (op == 44) = false := by rw [beq_eq_false_iff_ne]; exact HB.out 44 (by omega) (by omega)
    have e45 : (op == 45) = false := by rw [beq_eq_false_iff_ne]; exact HB.out 45 (by omega) (by omega)
    have e46 : (op == 46) = false := by rw [beq_eq_false_iff_ne]; exact HB.out 46 (by omega) (by omega)
    have e47 : (op == 47) = false := by rw [beq_eq_false_iff_ne]; exact HB.out 47 (by omega) (by omega)
    have e48 : (op == 48) = false := by rw [beq_eq_false_iff_ne]; exact HB.out 48 (by omega) (by omega)
    have e49 : (op == 49) = false := by rw [beq_eq_false_iff_ne]; exact HB.out 49 (by omega) (by omega)
    have e50 : (op == 50) = false := by rw [beq_eq_false_iff_ne]; exact HB.out 50 (by omega) (by omega)
    have e51 : (op == 51) = false := by rw [beq_eq_false_iff_ne]; exact HB.out 51 (by omega) (by omega)
    clear hno
    go_enter Try.func97, Try.ntmps97
    go_wp2
    exact bodyPost_ret (parts_res rfl rfl) rfl ⟨by rfl, below_box _ _⟩

/-- The sort of a node: 0 neither, 1 an expression, 2 an arm, 3 an else. -/
def tsortT (op : Int) : Int := if op = 49 then 2 else if op = 50 then 3 else if (ptsT op).isSome = true then 1 else 0
set_option maxRecDepth 100000 in
theorem tsort_any (op : Int) (w : World) :
    Calls Try.prog 73 #[.int .u8 op] w fun e w' => e = .returned (.int .u8 (tsortT op)) ∧ Below w.heap.size w w' := by
  have HP := Lib.hid (partsOf_any op w)
  unfold tsortT
  by_cases h49 : op = 49
  · subst h49
    go_enter Try.func73, Try.ntmps73
    go_wp2
    go_ret
    exact ⟨rfl, Below.refl _ _⟩
  · by_cases h50 : op = 50
    · subst h50
      go_enter Try.func73, Try.ntmps73
      go_wp2
      go_ret
      exact ⟨rfl, Below.refl _ _⟩
    · rw [if_neg h49, if_neg h50]
      have e1 : (op == 49) = false := by rw [beq_eq_false_iff_ne]; exact h49
      have e2 : (op == 50) = false := by rw [beq_eq_false_iff_ne]; exact h50
      cases hs : (ptsT op).isSome
      all_goals
        rw [hs] at HP
        have HS := Lib.hid hs
        clear hs h49 h50
        generalize (ptsT op).getD ptsZ = P at *
        go_enter Try.func73, Try.ntmps73
        go_wp2_with fail
        refine HP.out.mono ?_
        rintro e w2 ⟨rfl, hb⟩
        have HB := Lib.hid (below_go2 hb (below_box w2 (.cells P.enc 111)))
        unfold Pts.enc at *
        clear hb
        go_wp2
        go_ret
        exact ⟨rfl, HB.out⟩

/-- Is it an operator? -/
def signB (s : ByteArray) : Bool := decide (s = ⟨#[43]⟩) || decide (s = ⟨#[45]⟩) || decide (s = ⟨#[42]⟩) || decide (s = ⟨#[47]⟩) || decide (s = ⟨#[37]⟩) || decide (s = ⟨#[60]⟩) || decide (s = ⟨#[61, 61]⟩)
theorem str_eq (s : ByteArray) (l : Array UInt8) : (s.toList == (⟨l⟩ : ByteArray).toList) = decide (s = ⟨l⟩) := by
  rw [Bool.eq_iff_iff, beq_iff_eq, decide_eq_true_eq]
  exact ⟨toList_inj, fun e => by rw [e]⟩

end Go.Proofs.Ytcjhgefkbnbmnaa
