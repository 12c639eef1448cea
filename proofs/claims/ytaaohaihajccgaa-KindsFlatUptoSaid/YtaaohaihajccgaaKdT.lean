/- The document's own: Kids, shape. -/
import Derived.Test.YtaaohaihajccgaaKdR
import Derived.StillTailTactics
namespace Go.Proofs.Ytaaohaihajccgaa
open Go.RowKit LM
set_option linter.unusedVariables false

/-- The letter of a sort. -/
def ltr (s : Nat) : UInt8 := if s = 1 then 116 else 114
/-- The text of Kids. -/
def kidsS (op : Int) : ByteArray := ⟨(((kidsL op).getD []).map ltr).toArray⟩

set_option maxRecDepth 100000 in
theorem Kids_any (op : Int) (w : World) (h0 : 0 ≤ op) (h1 : op ≤ 255) :
    Calls Try.prog 64 #[.int .u8 op] w fun e w' => e = .returned (.tuple #[.string (kidsS op), .bool (kidsL op).isSome]) ∧ w = w' := by
  have H : Hid (∀ k : Option (List Nat), kidsL op = k → kidsS op = ⟨((k.getD []).map ltr).toArray⟩ ∧ (kidsL op).isSome = k.isSome) := Lib.hid (fun k hk => by unfold kidsS; rw [hk]; exact ⟨rfl, rfl⟩)
  by_cases hc : op = 1 ∨ op = 2 ∨ op = 3 ∨ op = 4 ∨ op = 5 ∨ op = 6 ∨ op = 7 ∨ op = 8 ∨ op = 9 ∨ op = 10 ∨ op = 11
  · rcases hc with rfl | rfl | rfl | rfl | rfl | rfl | rfl | rfl | rfl | rfl | rfl
    all_goals
      clear H h0 h1
      go_enter Try.func64, Try.ntmps64
      go_wp2
      go_ret2
      exact ⟨rfl, rfl⟩
  · have e1 : (op == 1) = false := by rw [beq_eq_false_iff_ne]; omega
    have e2 : (op == 2) = false := by rw [beq_eq_false_iff_ne]; omega
    have e3 : (op == 3) = false := by rw [beq_eq_false_iff_ne]; omega
    have e4 : (op == 4) = false := by rw [beq_eq_false_iff_ne]; omega
    have e5 : (op == 5) = false := by rw [beq_eq_false_iff_ne]; omega
    have e6 : (op == 6) = false := by rw [beq_eq_false_iff_ne]; omega
    have e7 : (op == 7) = false := by rw [beq_eq_false_iff_ne]; omega
    have e8 : (op == 8) = false := by rw [beq_eq_false_iff_ne]; omega
    have e9 : (op == 9) = false := by rw [beq_eq_false_iff_ne]; omega
    have e10 : (op == 10) = false := by rw [beq_eq_false_iff_ne]; omega
    have e11 : (op == 11) = false := by rw [beq_eq_false_iff_ne]; omega
    have hk : kidsL op = none := by unfold kidsL; rw [if_neg (by omega), if_neg (by omega), if_neg (by omega), if_neg (by omega)]
    obtain ⟨a1, a2⟩ := H.out none hk
    rw [a1, a2]
    clear a1 a2 H hk hc
    go_enter Try.func64, Try.ntmps64
    go_wp2
    go_ret2
    exact ⟨rfl, rfl⟩

/-- Is it a tree of the sort s, its variables apart? -/
def shape1 (h : Hd) (k : Fo) (s : Nat) : Bool := (Fo.cons h k .nil).shapes [s]
theorem shape1_none {h : Hd} {k : Fo} {s : Nat} (hk : kidsL h.op = none) : shape1 h k s = false := by simp [shape1, Fo.shapes, hk]
theorem shape1_sort {h : Hd} {k : Fo} {s : Nat} {ks : List Nat} (hk : kidsL h.op = some ks) (hs : sortO h.op ≠ s) : shape1 h k s = false := by simp [shape1, Fo.shapes, hk, hs]
theorem shape1_head {h : Hd} {k : Fo} {s : Nat} {ks : List Nat} (hk : kidsL h.op = some ks) (hs : headB h = false) : shape1 h k s = false := by simp [shape1, Fo.shapes, hk, hs]
theorem shape1_go {h : Hd} {k : Fo} {s : Nat} {ks : List Nat} (hk : kidsL h.op = some ks) (hs : sortO h.op = s) (hh : headB h = true) : shape1 h k s = k.shapes ks := by simp [shape1, Fo.shapes, hk, hs, hh]
theorem Fo.shapes_len : ∀ {k : Fo} {ks : List Nat}, k.len ≠ ks.length → k.shapes ks = false
  | .nil, [], h => by simp [Fo.len] at h
  | .nil, _ :: _, _ => rfl
  | .cons _ _ _, [], _ => rfl
  | .cons h k r, s :: ss, hl => by rw [Fo.shapes, Fo.shapes_len (k := r) (ks := ss) (by simpa [Fo.len] using hl)]; simp
theorem shape1_len {h : Hd} {k : Fo} {s : Nat} {ks : List Nat} (hk : kidsL h.op = some ks) (hl : k.len ≠ ks.length) : shape1 h k s = false := by simp [shape1, Fo.shapes, hk, Fo.shapes_len hl]
theorem Fo.shapes_get : ∀ {k : Fo} {ks : List Nat}, k.len = ks.length → (k.shapes ks = true ↔ ∀ i (h : i < ks.length), shape1 (k.get i).1 (k.get i).2 ks[i] = true)
  | .nil, [], _ => by simp [Fo.shapes]
  | .nil, _ :: _, h => by simp [Fo.len] at h
  | .cons _ _ _, [], h => by simp [Fo.len] at h
  | .cons h k r, s :: ss, hl => by
    have ih := Fo.shapes_get (k := r) (ks := ss) (by simpa [Fo.len] using hl)
    rw [shapes_cons, Bool.and_eq_true, ih]
    constructor
    · rintro ⟨h1, h2⟩ i hi
      cases i with
      | zero => exact h1
      | succ i => rw [Fo.get_succ]; exact h2 i (by simpa using hi)
    · intro hg
      refine ⟨hg 0 (by simp), fun i hi => ?_⟩
      have := hg (i + 1) (by simpa using hi)
      rwa [Fo.get_succ] at this
theorem kidsL_le {op : Int} {ks : List Nat} (h : kidsL op = some ks) : ks.length ≤ 2 ∧ ∀ s ∈ ks, s = 1 ∨ s = 2 := by
  unfold kidsL at h
  split at h
  · cases h; simp
  · split at h
    · cases h; simp
    · split at h
      · cases h; simp
      · split at h
        · cases h; simp
        · cases h
theorem kidsL_op {op : Int} {ks : List Nat} (h : kidsL op = some ks) : 1 ≤ op ∧ op ≤ 11 := by
  by_cases hc : 1 ≤ op ∧ op ≤ 11
  · exact hc
  · unfold kidsL at h; rw [if_neg (by omega), if_neg (by omega), if_neg (by omega), if_neg (by omega)] at h; cases h
theorem kidsS_size {op : Int} {ks : List Nat} (h : kidsL op = some ks) : (kidsS op).size = ks.length := by
  have : kidsS op = ⟨(ks.map ltr).toArray⟩ := by unfold kidsS; rw [h]; rfl
  rw [this]
  show (ks.map ltr).toArray.size = _
  simp
theorem kidsS_get {op : Int} {ks : List Nat} (h : kidsL op = some ks) (i : Nat) (h1 : i < (kidsS op).size) (h2 : i < ks.length) : (kidsS op)[i] = ltr ks[i] := by
  have e : kidsS op = ⟨(ks.map ltr).toArray⟩ := by unfold kidsS; rw [h]; rfl
  have : ∀ (s : ByteArray) (hs : i < s.size), s = ⟨(ks.map ltr).toArray⟩ → s[i] = ltr ks[i] := by
    intro s hs e
    subst e
    show (ks.map ltr).toArray[i]'_ = _
    simp
  exact this _ h1 e
/-- A part's head, as shape asks: the name, the number. -/
def nameB (h : Hd) : Bool := if h.op = 11 then wordL h.name.toList else h.name.toList.isEmpty
def numB (h : Hd) : Bool := decide (0 ≤ h.n) && (decide (h.op = 7) || decide (h.op = 10) || decide (h.n = 0))
theorem headB_eq (h : Hd) : headB h = (nameB h && numB h) := by simp [headB, nameB, numB, Bool.and_assoc]

end Go.Proofs.Ytaaohaihajccgaa
