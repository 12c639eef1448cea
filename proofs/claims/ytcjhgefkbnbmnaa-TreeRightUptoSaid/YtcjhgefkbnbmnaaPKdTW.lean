/- The document's own: Kids, shape. -/
import Derived.StillTailTactics
import Derived.Test.YtcjhgefkbnbmnaaPD
import Derived.Test.YtcjhgefkbnbmnaaPA
namespace Go.Proofs.Ytcjhgefkbnbmnaa
open Go.RowKit LM
set_option linter.unusedVariables false

/-- The letter of a sort. -/
def ltr (s : Nat) : UInt8 := if s = 1 then 116 else 114
/-- The text of Kids. -/
def kidsS (op : Int) : ByteArray := ⟨(((kidsL op).getD []).map ltr).toArray⟩

set_option maxRecDepth 100000 in
theorem Kids_any (op : Int) (w : World) (h0 : 0 ≤ op) (h1 : op ≤ 255) :
    Calls Try.prog 89 #[.int .u8 op] w fun e w' => e = .returned (.tuple #[.string (kidsS op), .bool (kidsL op).isSome]) ∧ w = w' := by
  have H : Hid (∀ k : Option (List Nat), kidsL op = k → kidsS op = ⟨((k.getD []).map ltr).toArray⟩ ∧ (kidsL op).isSome = k.isSome) := Lib.hid (fun k hk => by unfold kidsS; rw [hk]; exact ⟨rfl, rfl⟩)
  by_cases hc : op = 1 ∨ op = 2 ∨ op = 3 ∨ op = 4 ∨ op = 5 ∨ op = 6 ∨ op = 7 ∨ op = 8 ∨ op = 9 ∨ op = 10 ∨ op = 11
  · rcases hc with rfl | rfl | rfl | rfl | rfl | rfl | rfl | rfl | rfl | rfl | rfl
    all_goals
      clear H h0 h1
      go_enter Try.func89, Try.ntmps89
      go_wp2
      go_ret2
      exact ⟨rfl, rfl⟩
  · have e1 : (op == 1) = false := by rw [beq_eq_false_iff_ne]; omega
    have e2 : (op == 2) = false := by rw [beq_eq_false_iff_ne]; omega
    have e3 : (op == 3) = false := by rw [beq_eq_false_iff_ne]; omega
    have e4 : (op == 4) = false := by rw [beq_eq_false_iff_ne]; omega
    have e5 : (op == 5) = false := by rw [beq_eq_false_iff_ne]; omega
    have e6 : (op == 6) = false := by rw [beq_eq_false_iff_ne]; omega
    have e7 : (op == 7) = false := by rw [beq_eq_false_iff_ne]; omega
    have e8 : (op == 8) = false := by rw [beq_eq_false_iff_ne]; omega
    have e9 : (op == 9) = false := by rw [beq_eq_false_iff_ne]; omega
    have e10 : (op == 10) = false := by rw [beq_eq_false_iff_ne]; omega
    have e11 : (op == 11) = false := by rw [beq_eq_false_iff_ne]; omega
    have hk : kidsL op = none := by unfold kidsL; rw [if_neg (by omega), if_neg (by omega), if_neg (by omega), if_neg (by omega)]
    obtain ⟨a1, a2⟩ := H.out none hk
    rw [a1, a2]
    clear a1 a2 H hk hc
    go_enter Try.func89, Try.ntmps89
    go_wp2
    go_ret2
    exact ⟨rfl, rfl⟩

/-- Is it a tree of the sort s, its variables apart? -/
def shape1 (h : Hd) (k : Fo) (s : Nat) : Bool := (Fo.cons h k .nil).shapes [s]
theorem shape1_none {h : Hd} {k : Fo} {s : Nat} (hk : kidsL h.op = none) : shape1 h k s = false := by simp [shape1, Fo.shapes, hk]
theorem shape1_sort {h : Hd} {k : Fo} {s : Nat} {ks : List Nat} (hk : kidsL h.op = some ks) (hs : sortO h.op ≠ s) : shape1 h k s = false := by simp [shape1, Fo.shapes, hk, hs]
theorem shape1_head {h : Hd} {k : Fo} {s : Nat} {ks : List Nat} (hk : kidsL h.op = some ks) (hs : headB h = false) : shape1 h k s = false := by simp [shape1, Fo.shapes, hk, hs]
theorem shape1_go {h : Hd} {k : Fo} {s : Nat} {ks : List Nat} (hk : kidsL h.op = some ks) (hs : sortO h.op = s) (hh : headB h = true) : shape1 h k s = k.shapes ks := by simp [shape1, Fo.shapes, hk, hs, hh]
theorem Fo.shapes_len : ∀ {k : Fo} {ks : List Nat}, k.len ≠ ks.length → k.shapes ks = false
  | .nil, [], h => by simp [Fo.len] at h
  | .nil, _ :: _, _ => rfl
  | .cons _ _ _, [], _ => rfl
  | .cons h k r, s :: ss, hl => by rw [Fo.shapes, Fo.shapes_len (k := r) (ks := ss) (by simpa [Fo.len] using hl)]; simp
theorem shape1_len {h : Hd} {k : Fo} {s : Nat} {ks : List Nat} (hk : kidsL h.op = some ks) (hl : k.len ≠ ks.length) : shape1 h k s = false := by simp [shape1, Fo.shapes, hk, Fo.shapes_len hl]
theorem Fo.shapes_get : ∀ {k : Fo} {ks : List Nat}, k.len = ks.length → (k.shapes ks = true ↔ ∀ i (h : i < ks.length), shape1 (k.get i).1 (k.get i).2 ks[i] = true)
  | .nil, [], _ => by simp [Fo.shapes]
  | .nil, _ :: _, h => by simp [Fo.len] at h
  | .cons _ _ _, [], h => by simp [Fo.len] at h
  | .cons h k r, s :: ss, hl => by
    have ih := Fo.shapes_get (k := r) (ks := ss) (by simpa [Fo.len] using hl)
    rw [shapes_cons, Bool.and_eq_true, ih]
    constructor
    · rintro ⟨h1, h2⟩ i hi
      cases i with
      | zero => exact h1
      | succ i => rw [Fo.get_succ]; exact h2 i (by simpa using hi)
    · intro hg
      refine ⟨hg 0 (by simp), fun i hi => ?_⟩
      have := hg (i + 1) (by simpa using hi)
      rwa [Fo.get_succ] at this
theorem kidsL_le {op : Int} {ks : List Nat} (h : kidsL op = some ks) : ks.length ≤ 2 ∧ ∀ s ∈ ks, s = 1 ∨ s = 2 := by
  unfold kidsL at h
  split at h
  · cases h; simp
  · split at h
    · cases h; simp
    · split at h
      · cases h; simp
      · split at h
        · cases h; simp
        · cases h
theorem kidsL_op {op : Int} {ks : List Nat} (h : kidsL op = some ks) : 1 ≤ op ∧ op ≤ 11 := by
  by_cases hc : 1 ≤ op ∧ op ≤ 11
  · exact hc
  · unfold kidsL at h; rw [if_neg (by omega), if_neg (by omega), if_neg (by omega), if_neg (by omega)] at h; cases h
theorem kidsS_size {op : Int} {ks : List Nat} (h : kidsL op = some ks) : (kidsS op).size = ks.length := by
  have : kidsS op = ⟨(ks.map ltr).toArray⟩ := by unfold kidsS; rw [h]; rfl
  rw [this]
  show (ks.map ltr).toArray.size = _
  simp
theorem kidsS_get {op : Int} {ks : List Nat} (h : kidsL op = some ks) (i : Nat) (h1 : i < (kidsS op).size) (h2 : i < ks.length) : (kidsS op)[i] = ltr ks[i] := by
  have e : kidsS op = ⟨(ks.map ltr).toArray⟩ := by unfold kidsS; rw [h]; rfl
  have : ∀ (s : ByteArray) (hs : i < s.size), s = ⟨(ks.map ltr).toArray⟩ → s[i] = ltr ks[i] := by
    intro s hs e
    subst e
    show (ks.map ltr).toArray[i]'_ = _
    simp
  exact this _ h1 e
/-- A part's head, as shape asks: the name, the number. -/
def nameB (h : Hd) : Bool := if h.op = 11 then wordL h.name.toList else h.name.toList.isEmpty
def numB (h : Hd) : Bool := decide (0 ≤ h.n) && (decide (h.op = 7) || decide (h.op = 10) || decide (h.n = 0))
theorem headB_eq (h : Hd) : headB h = (nameB h && numB h) := by simp [headB, nameB, numB, Bool.and_assoc]

end Go.Proofs.Ytcjhgefkbnbmnaa

/- The document's shape. -/
namespace Go.Proofs.Ytcjhgefkbnbmnaa
open Go.RowKit LM
set_option linter.unusedVariables false

/-- What shape asks of its callees. -/
structure ShapeH (op : Int) (name : ByteArray) : Prop where
  kids : ∀ w, Calls Try.prog 89 #[.int .u8 op] w fun e w' => e = .returned (.tuple #[.string (kidsS op), .bool (kidsL op).isSome]) ∧ w = w'
  word : ∀ w, Calls Try.prog 90 #[.string name] w fun e w' => e = .returned (.bool (wordL name.toList)) ∧ Below w.heap.size w w'

set_option maxRecDepth 100000 in
theorem shape_none (op : Int) (name : ByteArray) (n : Int) (L cap : Nat) (q : Option Addr) (s : Nat) (c : UInt8) (w : World) (H : Hid (ShapeH op name)) (hs : s = 1 ∨ s = 2) (hc : c = ltr s) (hk : kidsL op = none) :
    Calls Try.prog 59 #[.agg #[.int .u8 op, .string name, .int .i64 n, .slice q L cap], .int .u8 c.toNat] w fun e w' => e = .returned (.bool false) ∧ Below w.heap.size w w' := by
  have HK := Lib.hid H.out.kids
  have HW := Lib.hid H.out.word
  clear H
  have e1 : (kidsL op).isSome = false := by rw [hk]; rfl
  rw [e1] at HK
  clear hk e1 hs hc
  generalize kidsS op = t at *
  go_enter Try.func59, Try.ntmps59
  go_wp2_with (go_at_call 89; refine (HK.out _).mono ?_; rintro e w' ⟨rfl, rfl⟩)
  go_ret
  exact ⟨rfl, below_box _ _⟩

set_option maxRecDepth 100000 in
theorem shape_sort (op : Int) (name : ByteArray) (n : Int) (L cap : Nat) (q : Option Addr) (s : Nat) (c : UInt8) (w : World) (H : Hid (ShapeH op name)) (hs : s = 1 ∨ s = 2) (hc : c = ltr s) (ks : List Nat) (hk : kidsL op = some ks) (hne : sortO op ≠ s) :
    Calls Try.prog 59 #[.agg #[.int .u8 op, .string name, .int .i64 n, .slice q L cap], .int .u8 c.toNat] w fun e w' => e = .returned (.bool false) ∧ Below w.heap.size w w' := by
  have HK := Lib.hid H.out.kids
  have HW := Lib.hid H.out.word
  clear H
  have e1 : (kidsL op).isSome = true := by rw [hk]; rfl
  have hop := kidsL_op hk
  rw [e1] at HK
  clear hk e1
  generalize kidsS op = t at *
  rcases hs with rfl | rfl
  · have hc' : c.toNat = 116 := by rw [hc]; rfl
    have h8 : 8 ≤ op := by
      by_cases h : op ≤ 7
      · exact absurd (sortO_1 hop.1 h) hne
      · omega
    rw [hc']
    clear hc hne hc'
    go_enter Try.func59, Try.ntmps59
    go_wp2_with (go_at_call 89; refine (HK.out _).mono ?_; rintro e w' ⟨rfl, rfl⟩)
    go_ret
    exact ⟨rfl, below_box _ _⟩
  · have hc' : c.toNat = 114 := by rw [hc]; rfl
    have h8 : op < 8 := by
      by_cases h : 8 ≤ op
      · exact absurd (sortO_2 h hop.2) hne
      · omega
    rw [hc']
    clear hc hne hc'
    go_enter Try.func59, Try.ntmps59
    go_wp2_with (go_at_call 89; refine (HK.out _).mono ?_; rintro e w' ⟨rfl, rfl⟩)
    go_ret
    exact ⟨rfl, below_box _ _⟩

set_option maxRecDepth 100000 in
theorem shape_len (op : Int) (name : ByteArray) (n : Int) (L cap : Nat) (q : Option Addr) (s : Nat) (c : UInt8) (w : World) (H : Hid (ShapeH op name)) (hs : s = 1 ∨ s = 2) (hc : c = ltr s) (ks : List Nat) (hk : kidsL op = some ks) (heq : sortO op = s) (hl : L ≠ ks.length) :
    Calls Try.prog 59 #[.agg #[.int .u8 op, .string name, .int .i64 n, .slice q L cap], .int .u8 c.toNat] w fun e w' => e = .returned (.bool false) ∧ Below w.heap.size w w' := by
  have HK := Lib.hid H.out.kids
  have HW := Lib.hid H.out.word
  clear H
  have e1 : (kidsL op).isSome = true := by rw [hk]; rfl
  have hop := kidsL_op hk
  have hsz0 := kidsS_size hk
  rw [e1] at HK
  have hcc : (c.toNat = 116 ∧ op < 8) ∨ (c.toNat = 114 ∧ 8 ≤ op) := by
    rcases hs with rfl | rfl
    · refine .inl ⟨by rw [hc]; rfl, ?_⟩
      by_cases h : op ≤ 7
      · omega
      · rw [sortO_2 (by omega) hop.2] at heq; omega
    · refine .inr ⟨by rw [hc]; rfl, ?_⟩
      by_cases h : 8 ≤ op
      · exact h
      · rw [sortO_1 hop.1 (by omega)] at heq; omega
  have hl' : ((L : Int) != ((kidsS op).size : Int)) = true := by rw [hsz0]; simp; omega
  clear hk e1 hs hc heq hl hsz0
  generalize kidsS op = t at *
  rcases hcc with ⟨hc, h8⟩ | ⟨hc, h8⟩
  all_goals
    rw [hc]
    clear hc
    go_enter Try.func59, Try.ntmps59
    go_wp2_with (go_at_call 89; refine (HK.out _).mono ?_; rintro e w' ⟨rfl, rfl⟩)
    go_ret
    exact ⟨rfl, below_box _ _⟩

set_option maxRecDepth 100000 in
theorem shape_word (op : Int) (name : ByteArray) (n : Int) (L cap : Nat) (q : Option Addr) (s : Nat) (c : UInt8) (w : World) (H : Hid (ShapeH op name)) (hs : s = 1 ∨ s = 2) (hc : c = ltr s) (ks : List Nat) (hk : kidsL op = some ks) (heq : sortO op = s) (hl : L = ks.length) (h11 : op = 11) (hw : wordL name.toList = false) :
    Calls Try.prog 59 #[.agg #[.int .u8 op, .string name, .int .i64 n, .slice q L cap], .int .u8 c.toNat] w fun e w' => e = .returned (.bool false) ∧ Below w.heap.size w w' := by
  have HK := Lib.hid H.out.kids
  have HW := Lib.hid H.out.word
  clear H
  have e1 : (kidsL op).isSome = true := by rw [hk]; rfl
  have hop := kidsL_op hk
  have hsz0 := kidsS_size hk
  rw [e1] at HK
  have hcc : (c.toNat = 116 ∧ op < 8) ∨ (c.toNat = 114 ∧ 8 ≤ op) := by
    rcases hs with rfl | rfl
    · refine .inl ⟨by rw [hc]; rfl, ?_⟩
      by_cases h : op ≤ 7
      · omega
      · rw [sortO_2 (by omega) hop.2] at heq; omega
    · refine .inr ⟨by rw [hc]; rfl, ?_⟩
      by_cases h : 8 ≤ op
      · exact h
      · rw [sortO_1 hop.1 (by omega)] at heq; omega
  have hl' : ((L : Int) != ((kidsS op).size : Int)) = false := by rw [hsz0, hl]; simp
  clear hk e1 hs heq hl hsz0
  rw [hw] at HW
  subst h11
  generalize kidsS 11 = t at *
  rcases hcc with ⟨hc', h8⟩ | ⟨hc', h8⟩
  · omega
  · rw [hc']
    clear hc hc' hw
    go_enter Try.func59, Try.ntmps59
    go_wp2_with (first | (go_at_call 89; refine (HK.out _).mono ?_; rintro e w' ⟨rfl, rfl⟩) | (go_at_call 90; refine (HW.out _).mono ?_; rintro e w2 ⟨rfl, hb2⟩; obtain ⟨hbc, hbf⟩ := bcell hb2; have hsz := hb2.size; have HB2 := Lib.hid hb2; clear hb2))
    go_ret
    exact ⟨rfl, below_then (below_box _ _) HB2.out⟩

set_option maxRecDepth 100000 in
theorem shape_name (op : Int) (name : ByteArray) (n : Int) (L cap : Nat) (q : Option Addr) (s : Nat) (c : UInt8) (w : World) (H : Hid (ShapeH op name)) (hs : s = 1 ∨ s = 2) (hc : c = ltr s) (ks : List Nat) (hk : kidsL op = some ks) (heq : sortO op = s) (hl : L = ks.length) (h11 : op ≠ 11) (hw : name.toList.isEmpty = false) :
    Calls Try.prog 59 #[.agg #[.int .u8 op, .string name, .int .i64 n, .slice q L cap], .int .u8 c.toNat] w fun e w' => e = .returned (.bool false) ∧ Below w.heap.size w w' := by
  have HK := Lib.hid H.out.kids
  have HW := Lib.hid H.out.word
  clear H
  have e1 : (kidsL op).isSome = true := by rw [hk]; rfl
  have hop := kidsL_op hk
  have hsz0 := kidsS_size hk
  rw [e1] at HK
  have hcc : (c.toNat = 116 ∧ op < 8) ∨ (c.toNat = 114 ∧ 8 ≤ op) := by
    rcases hs with rfl | rfl
    · refine .inl ⟨by rw [hc]; rfl, ?_⟩
      by_cases h : op ≤ 7
      · omega
      · rw [sortO_2 (by omega) hop.2] at heq; omega
    · refine .inr ⟨by rw [hc]; rfl, ?_⟩
      by_cases h : 8 ≤ op
      · exact h
      · rw [sortO_1 hop.1 (by omega)] at heq; omega
  have hl' : ((L : Int) != ((kidsS op).size : Int)) = false := by rw [hsz0, hl]; simp
  have h11' : (op == 11) = false := by simpa using h11
  have h11'' : (op != 11) = true := by simpa using h11
  have hw' : (!name.toList.isEmpty) = true := by simpa using hw
  clear hk e1 hs heq hl hsz0 h11 HW
  generalize kidsS op = t at *
  rcases hcc with ⟨hc', h8⟩ | ⟨hc', h8⟩
  all_goals
    rw [hc']
    clear hc hc'
    go_enter Try.func59, Try.ntmps59
    go_wp2_with (go_at_call 89; refine (HK.out _).mono ?_; rintro e w' ⟨rfl, rfl⟩)
    go_ret
    exact ⟨rfl, below_box _ _⟩

set_option maxRecDepth 100000 in
theorem shape_numR (op : Int) (name : ByteArray) (n : Int) (L cap : Nat) (q : Option Addr) (s : Nat) (c : UInt8) (w : World) (H : Hid (ShapeH op name)) (hs : s = 1 ∨ s = 2) (hc : c = ltr s) (ks : List Nat) (hk : kidsL op = some ks) (heq : sortO op = s) (hl : L = ks.length) (h11 : op = 11) (hw : wordL name.toList = true) (hn : numB ⟨op, name, n⟩ = false) :
    Calls Try.prog 59 #[.agg #[.int .u8 op, .string name, .int .i64 n, .slice q L cap], .int .u8 c.toNat] w fun e w' => e = .returned (.bool false) ∧ Below w.heap.size w w' := by
  have HK := Lib.hid H.out.kids
  have HW := Lib.hid H.out.word
  clear H
  have e1 : (kidsL op).isSome = true := by rw [hk]; rfl
  have hop := kidsL_op hk
  have hsz0 := kidsS_size hk
  rw [e1] at HK
  have hcc : (c.toNat = 116 ∧ op < 8) ∨ (c.toNat = 114 ∧ 8 ≤ op) := by
    rcases hs with rfl | rfl
    · refine .inl ⟨by rw [hc]; rfl, ?_⟩
      by_cases h : op ≤ 7
      · omega
      · rw [sortO_2 (by omega) hop.2] at heq; omega
    · refine .inr ⟨by rw [hc]; rfl, ?_⟩
      by_cases h : 8 ≤ op
      · exact h
      · rw [sortO_1 hop.1 (by omega)] at heq; omega
  have hl' : ((L : Int) != ((kidsS op).size : Int)) = false := by rw [hsz0, hl]; simp
  have hn' : n < 0 ∨ (0 ≤ n ∧ op ≠ 7 ∧ op ≠ 10 ∧ n ≠ 0) := by
    simp only [numB, Bool.and_eq_false_iff, Bool.or_eq_false_iff, decide_eq_false_iff_not] at hn
    by_cases h : n < 0
    · exact .inl h
    · right; rcases hn with h1 | ⟨⟨h1, h2⟩, h3⟩
      · omega
      · exact ⟨by omega, h1, h2, h3⟩
  clear hk e1 hs heq hl hsz0 hn
  rw [hw] at HW
  subst h11
  generalize kidsS 11 = t at *
  rcases hcc with ⟨hc', h8⟩ | ⟨hc', h8⟩
  · omega
  · rw [hc']
    clear hc hc' hw
    rcases hn' with hn | ⟨hn, h7, h10, h0⟩
    · go_enter Try.func59, Try.ntmps59
      go_wp2_with (first | (go_at_call 89; refine (HK.out _).mono ?_; rintro e w' ⟨rfl, rfl⟩) | (go_at_call 90; refine (HW.out _).mono ?_; rintro e w2 ⟨rfl, hb2⟩; obtain ⟨hbc, hbf⟩ := bcell hb2; have hsz := hb2.size; have HB2 := Lib.hid hb2; clear hb2))
      go_ret
      exact ⟨rfl, below_then (below_box _ _) HB2.out⟩
    · have h0' : (n != 0) = true := by simpa using h0
      go_enter Try.func59, Try.ntmps59
      go_wp2_with (first | (go_at_call 89; refine (HK.out _).mono ?_; rintro e w' ⟨rfl, rfl⟩) | (go_at_call 90; refine (HW.out _).mono ?_; rintro e w2 ⟨rfl, hb2⟩; obtain ⟨hbc, hbf⟩ := bcell hb2; have hsz := hb2.size; have HB2 := Lib.hid hb2; clear hb2))
      go_ret
      exact ⟨rfl, below_then (below_box _ _) HB2.out⟩

set_option maxRecDepth 100000 in
theorem shape_numT (op : Int) (name : ByteArray) (n : Int) (L cap : Nat) (q : Option Addr) (s : Nat) (c : UInt8) (w : World) (H : Hid (ShapeH op name)) (hs : s = 1 ∨ s = 2) (hc : c = ltr s) (ks : List Nat) (hk : kidsL op = some ks) (heq : sortO op = s) (hl : L = ks.length) (h11 : op ≠ 11) (hw : name.toList.isEmpty = true) (hn : numB ⟨op, name, n⟩ = false) :
    Calls Try.prog 59 #[.agg #[.int .u8 op, .string name, .int .i64 n, .slice q L cap], .int .u8 c.toNat] w fun e w' => e = .returned (.bool false) ∧ Below w.heap.size w w' := by
  have HK := Lib.hid H.out.kids
  have HW := Lib.hid H.out.word
  clear H
  have e1 : (kidsL op).isSome = true := by rw [hk]; rfl
  have hop := kidsL_op hk
  have hsz0 := kidsS_size hk
  rw [e1] at HK
  have hcc : (c.toNat = 116 ∧ op < 8) ∨ (c.toNat = 114 ∧ 8 ≤ op) := by
    rcases hs with rfl | rfl
    · refine .inl ⟨by rw [hc]; rfl, ?_⟩
      by_cases h : op ≤ 7
      · omega
      · rw [sortO_2 (by omega) hop.2] at heq; omega
    · refine .inr ⟨by rw [hc]; rfl, ?_⟩
      by_cases h : 8 ≤ op
      · exact h
      · rw [sortO_1 hop.1 (by omega)] at heq; omega
  have hl' : ((L : Int) != ((kidsS op).size : Int)) = false := by rw [hsz0, hl]; simp
  have hn' : n < 0 ∨ (0 ≤ n ∧ op ≠ 7 ∧ op ≠ 10 ∧ n ≠ 0) := by
    simp only [numB, Bool.and_eq_false_iff, Bool.or_eq_false_iff, decide_eq_false_iff_not] at hn
    by_cases h : n < 0
    · exact .inl h
    · right; rcases hn with h1 | ⟨⟨h1, h2⟩, h3⟩
      · omega
      · exact ⟨by omega, h1, h2, h3⟩
  have h11' : (op == 11) = false := by simpa using h11
  have h11'' : (op != 11) = true := by simpa using h11
  have hw' : (!name.toList.isEmpty) = false := by simpa using hw
  have hw'' : name.toList = [] := by simpa using hw
  clear hk e1 hs heq hl hsz0 h11 HW hn
  generalize kidsS op = t at *
  rcases hn' with hn | ⟨hn, h7, h10, h0⟩
  · rcases hcc with ⟨hc', h8⟩ | ⟨hc', h8⟩
    all_goals
      rw [hc']
      clear hc hc'
      go_enter Try.func59, Try.ntmps59
      go_wp2_with (go_at_call 89; refine (HK.out _).mono ?_; rintro e w' ⟨rfl, rfl⟩)
      go_ret
      exact ⟨rfl, below_box _ _⟩
  · have h0' : (n != 0) = true := by simpa using h0
    have h7' : (op != 7) = true := by simpa using h7
    have h10' : (op != 10) = true := by simpa using h10
    rcases hcc with ⟨hc', h8⟩ | ⟨hc', h8⟩
    all_goals
      rw [hc']
      clear hc hc' h0 h7 h10
      go_enter Try.func59, Try.ntmps59
      go_wp2_with (go_at_call 89; refine (HK.out _).mono ?_; rintro e w' ⟨rfl, rfl⟩)
      go_ret
      exact ⟨rfl, below_box _ _⟩

end Go.Proofs.Ytcjhgefkbnbmnaa

/- The document's shape: all Kids. -/
namespace Go.Proofs.Ytcjhgefkbnbmnaa
open Go.RowKit LM
set_option linter.unusedVariables false

/-- What shape keeps while it goes along the Kids. -/
structure ShI (w : World) (op : Int) (name : ByteArray) (n : Int) (k : Fo) (ks : List Nat) (q : Option Addr) (L cap j : Nat) (wr : World) : Prop where
  le : j ≤ L
  al : ∀ i (h : i < ks.length), i < j → shape1 (k.get i).1 (k.get i).2 ks[i] = true
  box : wr.heap[w.heap.size]? = some (.cells #[.int .u8 op, .string name, .int .i64 n, .slice q L cap] 25 (0, 0))
  below : Below w.heap.size w wr
theorem ShI.start {w w1 : World} {op : Int} {name : ByteArray} {n : Int} {k : Fo} {ks : List Nat} {q : Option Addr} {L cap : Nat} (hb : Below (w.alloc (.cells #[.int .u8 op, .string name, .int .i64 n, .slice q L cap] 25)).heap.size (w.alloc (.cells #[.int .u8 op, .string name, .int .i64 n, .slice q L cap] 25)) w1) :
    ShI w op name n k ks q L cap 0 w1 :=
  ⟨Nat.zero_le _, fun i h hi => by omega, (hb.block _ (by simp)).trans (World.alloc_heap_new w _), below_then (below_box _ _) hb⟩
theorem ShI.go {w : World} {op : Int} {name : ByteArray} {n : Int} {k : Fo} {ks : List Nat} {q : Option Addr} {L cap j : Nat} {wr w2 : World} (h : ShI w op name n k ks q L cap j wr) (hb : Below wr.drew.heap.size wr.drew w2) (hj : j < L) (he : ∀ hk : j < ks.length, shape1 (k.get j).1 (k.get j).2 ks[j] = true) :
    ShI w op name n k ks q L cap (j + 1) w2 :=
  ⟨hj, fun i hk hi => by
    by_cases hij : i = j
    · subst hij; exact he hk
    · exact h.al i hk (by omega), (hb.block _ (Array.getElem?_eq_some_iff.1 h.box).1).trans h.box, h.below.drew.trans (hb.mono h.below.size)⟩

/-- What is known of the Kids. -/
def ShKids (w : World) (k : Fo) (ks : List Nat) : Prop :=
  ∀ (i : Nat) (h : i < ks.length) (c : UInt8) (w' : World) (q' : Option Addr) (cap' : Nat), c = ltr ks[i] → SlF w' q' cap' (k.get i).2 →
    Calls Try.prog 59 #[.agg #[.int .u8 (k.get i).1.op, .string (k.get i).1.name, .int .i64 (k.get i).1.n, .slice q' (k.get i).2.len cap'], .int .u8 c.toNat] w' fun e w2 => e = .returned (.bool (shape1 (k.get i).1 (k.get i).2 ks[i])) ∧ Below w'.heap.size w' w2

set_option maxRecDepth 100000 in
set_option maxHeartbeats 2000000 in
theorem shape_yes (op : Int) (name : ByteArray) (n : Int) (k : Fo) (cap : Nat) (q : Option Addr) (s : Nat) (c : UInt8) (w : World) (H : Hid (ShapeH op name)) (hs : s = 1 ∨ s = 2) (hc : c = ltr s) (ks : List Nat) (hk : kidsL op = some ks) (heq : sortO op = s) (hl : k.len = ks.length)
    (hnm : nameB ⟨op, name, n⟩ = true) (hn : numB ⟨op, name, n⟩ = true) (hsl : SlF w q cap k) (hih : ShKids w k ks) :
    Calls Try.prog 59 #[.agg #[.int .u8 op, .string name, .int .i64 n, .slice q k.len cap], .int .u8 c.toNat] w fun e w' => e = .returned (.bool (k.shapes ks)) ∧ Below w.heap.size w w' := by
  have HK := Lib.hid H.out.kids
  have HW := Lib.hid H.out.word
  clear H
  have e1 : (kidsL op).isSome = true := by rw [hk]; rfl
  have hop := kidsL_op hk
  have hsz0 := kidsS_size hk
  rw [e1] at HK
  have HT := Lib.hid fun i h1 h2 => kidsS_get hk i h1 h2
  have HY : Hid ((∀ i (h : i < ks.length), shape1 (k.get i).1 (k.get i).2 ks[i] = true) → k.shapes ks = true) := Lib.hid (Fo.shapes_get hl).2
  have HN : Hid (∀ i (h : i < ks.length), shape1 (k.get i).1 (k.get i).2 ks[i] = false → k.shapes ks = false) := Lib.hid (fun i h hf => by
    rw [Bool.eq_false_iff]; intro ht; have := (Fo.shapes_get hl).1 ht i h; rw [hf] at this; cases this)
  have hle := (kidsL_le hk).1
  have hcs : (op = 11 ∧ wordL name.toList = true ∧ n = 0 ∧ c.toNat = 114) ∨ (op ≠ 11 ∧ name.toList = [] ∧ 0 ≤ n ∧ ((op = 7 ∧ c.toNat = 116) ∨ (op = 10 ∧ c.toNat = 114) ∨ (n = 0 ∧ (op < 8 ∧ op ≠ 7) ∧ c.toNat = 116) ∨ (n = 0 ∧ (8 ≤ op ∧ op ≠ 10) ∧ c.toNat = 114))) := by
    have hcc : (c.toNat = 116 ∧ op < 8) ∨ (c.toNat = 114 ∧ 8 ≤ op) := by
      rcases hs with rfl | rfl
      · refine .inl ⟨by rw [hc]; rfl, ?_⟩
        by_cases h : op ≤ 7
        · omega
        · rw [sortO_2 (by omega) hop.2] at heq; omega
      · refine .inr ⟨by rw [hc]; rfl, ?_⟩
        by_cases h : 8 ≤ op
        · exact h
        · rw [sortO_1 hop.1 (by omega)] at heq; omega
    simp only [nameB] at hnm
    simp only [numB, Bool.and_eq_true, Bool.or_eq_true, decide_eq_true_eq] at hn
    by_cases h11 : op = 11
    · rw [if_pos h11] at hnm
      exact .inl ⟨h11, hnm, by omega, by omega⟩
    · rw [if_neg h11] at hnm
      exact .inr ⟨h11, by simpa using hnm, hn.1, by omega⟩
  have HIH := Lib.hid hih
  have HSL := Lib.hid hsl
  have HL := Lib.hid hl
  have hlc := hsl.lc
  have hcm := hsl.cm
  unfold maxLen at hcm
  have hsz1 : (kidsS op).size = k.len := by rw [hsz0, hl]
  clear hc hs heq hnm hn hih hsl hl hsz0 hk e1
  generalize k.shapes ks = r at *
  generalize kidsS op = t at *
  generalize hLd : k.len = L at *
  have HLD := Lib.hid hLd
  clear hLd
  have hl' : ((L : Int) != (t.size : Int)) = false := by rw [hsz1]; simp
  have hL2 : L ≤ 2 := by rw [HL.out]; exact hle
  have hsame : ∀ w' : World, ShI w op name n k ks q L cap 0 (w.alloc (.cells #[.int .u8 op, .string name, .int .i64 n, .slice q L cap] 25)) := fun _ => ShI.start (Below.refl _ _)
  have HSA := Lib.hid hsame
  have HST := Lib.hid fun (w1 : World) (hb : Below (w.alloc (.cells #[.int .u8 op, .string name, .int .i64 n, .slice q L cap] 25)).heap.size (w.alloc (.cells #[.int .u8 op, .string name, .int .i64 n, .slice q L cap] 25)) w1) => ShI.start (k := k) (ks := ks) hb
  have HTS := Lib.hid hsz1
  clear hsame hsz1
  rcases hcs with ⟨rfl, hw, rfl, hc⟩ | ⟨h11, hw, hn0, ⟨rfl, hc⟩ | ⟨rfl, hc⟩ | ⟨rfl, ⟨h8, h7⟩, hc⟩ | ⟨rfl, ⟨h8, h7⟩, hc⟩⟩
  · rw [hw] at HW
    rw [hc]
    clear hw hc
    go_enter Try.func59, Try.ntmps59
    go_wp2_with (first | (go_at_call 89; refine (HK.out _).mono ?_; rintro e w' ⟨rfl, rfl⟩) | (go_at_call 90; refine (HW.out _).mono ?_; rintro e w2 ⟨rfl, hb2⟩; have hst := HST.out _ hb2; obtain ⟨x0, x1, x2, x3, _⟩ := row4 hst.box; have HSX := Lib.hid hst; clear hb2 hst))
    go_loopw [7] (fun i wr => ∃ j : Nat, i = .int .i64 j ∧ ShI w 11 name 0 k ks q L cap j wr) (fun i _ => L - (intOf i).toNat)
    case atStart => exact ⟨0, rfl, HSX.out⟩
    case round =>
      obtain ⟨j, rfl, hI⟩ := hrel
      obtain ⟨y0, y1, y2, y3, _⟩ := row4 hI.box
      have hjL := hI.le
      have HI := Lib.hid hI
      clear hI
      by_cases hj : j < L
      · have hjt : j < t.size := by rw [HTS.out]; exact hj
        have hjk : j < k.len := by rw [HLD.out]; exact hj
        have hjs : j < ks.length := by rw [← HL.out]; exact hj
        obtain ⟨b, o, rfl, hfo⟩ := ((HSL.out.below HI.out.below).at_ (Nat.lt_of_le_of_lt (Nat.zero_le _) hjk))
        obtain ⟨q1, cap1, hd1, hs1⟩ := hfo.get j hjk
        have c0 := hd1.c0
        have c1 := hd1.c1
        have c2 := hd1.c2
        have c3 := hd1.c3
        have HC := Lib.hid fun w' hb => HIH.out j hjs t[j] w' q1 cap1 (HT.out j hjt hjs) (hs1.below (w := wr) hb)
        have HBD : Hid (Below wr.heap.size wr wr.drew) := Lib.hid (Below.refl _ _).drew
        clear hd1 hfo hs1
        by_cases hsh : shape1 (k.get j).1 (k.get j).2 ks[j] = true
        · have HSH := Lib.hid hsh
          rw [hsh] at HC
          clear hsh
          generalize (k.get j).1.op = g1 at *
          generalize (k.get j).1.name = g2 at *
          generalize (k.get j).1.n = g3 at *
          go_wp2
          go_still_tail 8, (by kernel_rfl)
          change wpList _ _ _ _ _ wr.drew
          go_wp2_with (go_at_call 59; refine (HC.out _ HBD.out).mono ?_; rintro e w3 ⟨rfl, hb3⟩; have HB3 := Lib.hid hb3; clear hb3)
          go_roundw
          case rel => exact ⟨j + 1, by go_num, HI.out.go HB3.out hj (fun _ => HSH.out)⟩
          case measure => simp [intOf]; omega
        · have hsh' : shape1 (k.get j).1 (k.get j).2 ks[j] = false := by simpa using hsh
          have HR := Lib.hid (HN.out j hjs hsh')
          rw [hsh'] at HC
          clear hsh hsh'
          generalize (k.get j).1.op = g1 at *
          generalize (k.get j).1.name = g2 at *
          generalize (k.get j).1.n = g3 at *
          go_wp2
          go_still_tail 8, (by kernel_rfl)
          change wpList _ _ _ _ _ wr.drew
          go_wp2_with (go_at_call 59; refine (HC.out _ HBD.out).mono ?_; rintro e w3 ⟨rfl, hb3⟩; have HB3 := Lib.hid hb3; clear hb3)
          go_ret
          exact ⟨ret_bool HR.out.symm, HI.out.below.drew.trans (HB3.out.mono HI.out.below.size)⟩
      · have hjt : ¬ j < t.size := by rw [HTS.out]; exact hj
        have hje : j = L := by omega
        have HJ := Lib.hid hje
        clear hje
        go_wp2
        go_ret
        exact ⟨ret_bool (HY.out (fun i hi => HI.out.al i hi (by rw [HJ.out, HL.out]; exact hi))).symm, HI.out.below⟩
  · rw [hc]
    have hw' : (!name.toList.isEmpty) = false := by simp [hw]
    clear hc HW
    clear h11
    go_enter Try.func59, Try.ntmps59
    go_wp2_with (go_at_call 89; refine (HK.out _).mono ?_; rintro e w' ⟨rfl, rfl⟩)
    go_loopw [7] (fun i wr => ∃ j : Nat, i = .int .i64 j ∧ ShI w 7 name n k ks q L cap j wr) (fun i _ => L - (intOf i).toNat)
    case atStart => exact ⟨0, rfl, HSA.out w⟩
    case round =>
      obtain ⟨j, rfl, hI⟩ := hrel
      obtain ⟨y0, y1, y2, y3, _⟩ := row4 hI.box
      have hjL := hI.le
      have HI := Lib.hid hI
      clear hI
      by_cases hj : j < L
      · have hjt : j < t.size := by rw [HTS.out]; exact hj
        have hjk : j < k.len := by rw [HLD.out]; exact hj
        have hjs : j < ks.length := by rw [← HL.out]; exact hj
        obtain ⟨b, o, rfl, hfo⟩ := ((HSL.out.below HI.out.below).at_ (Nat.lt_of_le_of_lt (Nat.zero_le _) hjk))
        obtain ⟨q1, cap1, hd1, hs1⟩ := hfo.get j hjk
        have c0 := hd1.c0
        have c1 := hd1.c1
        have c2 := hd1.c2
        have c3 := hd1.c3
        have HC := Lib.hid fun w' hb => HIH.out j hjs t[j] w' q1 cap1 (HT.out j hjt hjs) (hs1.below (w := wr) hb)
        have HBD : Hid (Below wr.heap.size wr wr.drew) := Lib.hid (Below.refl _ _).drew
        clear hd1 hfo hs1
        by_cases hsh : shape1 (k.get j).1 (k.get j).2 ks[j] = true
        · have HSH := Lib.hid hsh
          rw [hsh] at HC
          clear hsh
          generalize (k.get j).1.op = g1 at *
          generalize (k.get j).1.name = g2 at *
          generalize (k.get j).1.n = g3 at *
          go_wp2
          go_still_tail 8, (by kernel_rfl)
          change wpList _ _ _ _ _ wr.drew
          go_wp2_with (go_at_call 59; refine (HC.out _ HBD.out).mono ?_; rintro e w3 ⟨rfl, hb3⟩; have HB3 := Lib.hid hb3; clear hb3)
          go_roundw
          case rel => exact ⟨j + 1, by go_num, HI.out.go HB3.out hj (fun _ => HSH.out)⟩
          case measure => simp [intOf]; omega
        · have hsh' : shape1 (k.get j).1 (k.get j).2 ks[j] = false := by simpa using hsh
          have HR := Lib.hid (HN.out j hjs hsh')
          rw [hsh'] at HC
          clear hsh hsh'
          generalize (k.get j).1.op = g1 at *
          generalize (k.get j).1.name = g2 at *
          generalize (k.get j).1.n = g3 at *
          go_wp2
          go_still_tail 8, (by kernel_rfl)
          change wpList _ _ _ _ _ wr.drew
          go_wp2_with (go_at_call 59; refine (HC.out _ HBD.out).mono ?_; rintro e w3 ⟨rfl, hb3⟩; have HB3 := Lib.hid hb3; clear hb3)
          go_ret
          exact ⟨ret_bool HR.out.symm, HI.out.below.drew.trans (HB3.out.mono HI.out.below.size)⟩
      · have hjt : ¬ j < t.size := by rw [HTS.out]; exact hj
        have hje : j = L := by omega
        have HJ := Lib.hid hje
        clear hje
        go_wp2
        go_ret
        exact ⟨ret_bool (HY.out (fun i hi => HI.out.al i hi (by rw [HJ.out, HL.out]; exact hi))).symm, HI.out.below⟩
  · rw [hc]
    have hw' : (!name.toList.isEmpty) = false := by simp [hw]
    clear hc HW
    clear h11
    go_enter Try.func59, Try.ntmps59
    go_wp2_with (go_at_call 89; refine (HK.out _).mono ?_; rintro e w' ⟨rfl, rfl⟩)
    go_loopw [7] (fun i wr => ∃ j : Nat, i = .int .i64 j ∧ ShI w 10 name n k ks q L cap j wr) (fun i _ => L - (intOf i).toNat)
    case atStart => exact ⟨0, rfl, HSA.out w⟩
    case round =>
      obtain ⟨j, rfl, hI⟩ := hrel
      obtain ⟨y0, y1, y2, y3, _⟩ := row4 hI.box
      have hjL := hI.le
      have HI := Lib.hid hI
      clear hI
      by_cases hj : j < L
      · have hjt : j < t.size := by rw [HTS.out]; exact hj
        have hjk : j < k.len := by rw [HLD.out]; exact hj
        have hjs : j < ks.length := by rw [← HL.out]; exact hj
        obtain ⟨b, o, rfl, hfo⟩ := ((HSL.out.below HI.out.below).at_ (Nat.lt_of_le_of_lt (Nat.zero_le _) hjk))
        obtain ⟨q1, cap1, hd1, hs1⟩ := hfo.get j hjk
        have c0 := hd1.c0
        have c1 := hd1.c1
        have c2 := hd1.c2
        have c3 := hd1.c3
        have HC := Lib.hid fun w' hb => HIH.out j hjs t[j] w' q1 cap1 (HT.out j hjt hjs) (hs1.below (w := wr) hb)
        have HBD : Hid (Below wr.heap.size wr wr.drew) := Lib.hid (Below.refl _ _).drew
        clear hd1 hfo hs1
        by_cases hsh : shape1 (k.get j).1 (k.get j).2 ks[j] = true
        · have HSH := Lib.hid hsh
          rw [hsh] at HC
          clear hsh
          generalize (k.get j).1.op = g1 at *
          generalize (k.get j).1.name = g2 at *
          generalize (k.get j).1.n = g3 at *
          go_wp2
          go_still_tail 8, (by kernel_rfl)
          change wpList _ _ _ _ _ wr.drew
          go_wp2_with (go_at_call 59; refine (HC.out _ HBD.out).mono ?_; rintro e w3 ⟨rfl, hb3⟩; have HB3 := Lib.hid hb3; clear hb3)
          go_roundw
          case rel => exact ⟨j + 1, by go_num, HI.out.go HB3.out hj (fun _ => HSH.out)⟩
          case measure => simp [intOf]; omega
        · have hsh' : shape1 (k.get j).1 (k.get j).2 ks[j] = false := by simpa using hsh
          have HR := Lib.hid (HN.out j hjs hsh')
          rw [hsh'] at HC
          clear hsh hsh'
          generalize (k.get j).1.op = g1 at *
          generalize (k.get j).1.name = g2 at *
          generalize (k.get j).1.n = g3 at *
          go_wp2
          go_still_tail 8, (by kernel_rfl)
          change wpList _ _ _ _ _ wr.drew
          go_wp2_with (go_at_call 59; refine (HC.out _ HBD.out).mono ?_; rintro e w3 ⟨rfl, hb3⟩; have HB3 := Lib.hid hb3; clear hb3)
          go_ret
          exact ⟨ret_bool HR.out.symm, HI.out.below.drew.trans (HB3.out.mono HI.out.below.size)⟩
      · have hjt : ¬ j < t.size := by rw [HTS.out]; exact hj
        have hje : j = L := by omega
        have HJ := Lib.hid hje
        clear hje
        go_wp2
        go_ret
        exact ⟨ret_bool (HY.out (fun i hi => HI.out.al i hi (by rw [HJ.out, HL.out]; exact hi))).symm, HI.out.below⟩
  · rw [hc]
    have hw' : (!name.toList.isEmpty) = false := by simp [hw]
    clear hc HW
    have h11' : (op == 11) = false := by simpa using h11
    have h11'' : (op != 11) = true := by simpa using h11
    have h7' : (op != 7) = true := by rw [bne_iff_ne]; omega
    have h10' : (op != 10) = true := by rw [bne_iff_ne]; omega
    clear h11 h7
    go_enter Try.func59, Try.ntmps59
    go_wp2_with (go_at_call 89; refine (HK.out _).mono ?_; rintro e w' ⟨rfl, rfl⟩)
    go_loopw [7] (fun i wr => ∃ j : Nat, i = .int .i64 j ∧ ShI w op name 0 k ks q L cap j wr) (fun i _ => L - (intOf i).toNat)
    case atStart => exact ⟨0, rfl, HSA.out w⟩
    case round =>
      obtain ⟨j, rfl, hI⟩ := hrel
      obtain ⟨y0, y1, y2, y3, _⟩ := row4 hI.box
      have hjL := hI.le
      have HI := Lib.hid hI
      clear hI
      by_cases hj : j < L
      · have hjt : j < t.size := by rw [HTS.out]; exact hj
        have hjk : j < k.len := by rw [HLD.out]; exact hj
        have hjs : j < ks.length := by rw [← HL.out]; exact hj
        obtain ⟨b, o, rfl, hfo⟩ := ((HSL.out.below HI.out.below).at_ (Nat.lt_of_le_of_lt (Nat.zero_le _) hjk))
        obtain ⟨q1, cap1, hd1, hs1⟩ := hfo.get j hjk
        have c0 := hd1.c0
        have c1 := hd1.c1
        have c2 := hd1.c2
        have c3 := hd1.c3
        have HC := Lib.hid fun w' hb => HIH.out j hjs t[j] w' q1 cap1 (HT.out j hjt hjs) (hs1.below (w := wr) hb)
        have HBD : Hid (Below wr.heap.size wr wr.drew) := Lib.hid (Below.refl _ _).drew
        clear hd1 hfo hs1
        by_cases hsh : shape1 (k.get j).1 (k.get j).2 ks[j] = true
        · have HSH := Lib.hid hsh
          rw [hsh] at HC
          clear hsh
          generalize (k.get j).1.op = g1 at *
          generalize (k.get j).1.name = g2 at *
          generalize (k.get j).1.n = g3 at *
          go_wp2
          go_still_tail 8, (by kernel_rfl)
          change wpList _ _ _ _ _ wr.drew
          go_wp2_with (go_at_call 59; refine (HC.out _ HBD.out).mono ?_; rintro e w3 ⟨rfl, hb3⟩; have HB3 := Lib.hid hb3; clear hb3)
          go_roundw
          case rel => exact ⟨j + 1, by go_num, HI.out.go HB3.out hj (fun _ => HSH.out)⟩
          case measure => simp [intOf]; omega
        · have hsh' : shape1 (k.get j).1 (k.get j).2 ks[j] = false := by simpa using hsh
          have HR := Lib.hid (HN.out j hjs hsh')
          rw [hsh'] at HC
          clear hsh hsh'
          generalize (k.get j).1.op = g1 at *
          generalize (k.get j).1.name = g2 at *
          generalize (k.get j).1.n = g3 at *
          go_wp2
          go_still_tail 8, (by kernel_rfl)
          change wpList _ _ _ _ _ wr.drew
          go_wp2_with (go_at_call 59; refine (HC.out _ HBD.out).mono ?_; rintro e w3 ⟨rfl, hb3⟩; have HB3 := Lib.hid hb3; clear hb3)
          go_ret
          exact ⟨ret_bool HR.out.symm, HI.out.below.drew.trans (HB3.out.mono HI.out.below.size)⟩
      · have hjt : ¬ j < t.size := by rw [HTS.out]; exact hj
        have hje : j = L := by omega
        have HJ := Lib.hid hje
        clear hje
        go_wp2
        go_ret
        exact ⟨ret_bool (HY.out (fun i hi => HI.out.al i hi (by rw [HJ.out, HL.out]; exact hi))).symm, HI.out.below⟩
  · rw [hc]
    have hw' : (!name.toList.isEmpty) = false := by simp [hw]
    clear hc HW
    have h11' : (op == 11) = false := by simpa using h11
    have h11'' : (op != 11) = true := by simpa using h11
    have h7' : (op != 7) = true := by rw [bne_iff_ne]; omega
    have h10' : (op != 10) = true := by rw [bne_iff_ne]; omega
    clear h11 h7
    go_enter Try.func59, Try.ntmps59
    go_wp2_with (go_at_call 89; refine (HK.out _).mono ?_; rintro e w' ⟨rfl, rfl⟩)
    go_loopw [7] (fun i wr => ∃ j : Nat, i = .int .i64 j ∧ ShI w op name 0 k ks q L cap j wr) (fun i _ => L - (intOf i).toNat)
    case atStart => exact ⟨0, rfl, HSA.out w⟩
    case round =>
      obtain ⟨j, rfl, hI⟩ := hrel
      obtain ⟨y0, y1, y2, y3, _⟩ := row4 hI.box
      have hjL := hI.le
      have HI := Lib.hid hI
      clear hI
      by_cases hj : j < L
      · have hjt : j < t.size := by rw [HTS.out]; exact hj
        have hjk : j < k.len := by rw [HLD.out]; exact hj
        have hjs : j < ks.length := by rw [← HL.out]; exact hj
        obtain ⟨b, o, rfl, hfo⟩ := ((HSL.out.below HI.out.below).at_ (Nat.lt_of_le_of_lt (Nat.zero_le _) hjk))
        obtain ⟨q1, cap1, hd1, hs1⟩ := hfo.get j hjk
        have c0 := hd1.c0
        have c1 := hd1.c1
        have c2 := hd1.c2
        have c3 := hd1.c3
        have HC := Lib.hid fun w' hb => HIH.out j hjs t[j] w' q1 cap1 (HT.out j hjt hjs) (hs1.below (w := wr) hb)
        have HBD : Hid (Below wr.heap.size wr wr.drew) := Lib.hid (Below.refl _ _).drew
        clear hd1 hfo hs1
        by_cases hsh : shape1 (k.get j).1 (k.get j).2 ks[j] = true
        · have HSH := Lib.hid hsh
          rw [hsh] at HC
          clear hsh
          generalize (k.get j).1.op = g1 at *
          generalize (k.get j).1.name = g2 at *
          generalize (k.get j).1.n = g3 at *
          go_wp2
          go_still_tail 8, (by kernel_rfl)
          change wpList _ _ _ _ _ wr.drew
          go_wp2_with (go_at_call 59; refine (HC.out _ HBD.out).mono ?_; rintro e w3 ⟨rfl, hb3⟩; have HB3 := Lib.hid hb3; clear hb3)
          go_roundw
          case rel => exact ⟨j + 1, by go_num, HI.out.go HB3.out hj (fun _ => HSH.out)⟩
          case measure => simp [intOf]; omega
        · have hsh' : shape1 (k.get j).1 (k.get j).2 ks[j] = false := by simpa using hsh
          have HR := Lib.hid (HN.out j hjs hsh')
          rw [hsh'] at HC
          clear hsh hsh'
          generalize (k.get j).1.op = g1 at *
          generalize (k.get j).1.name = g2 at *
          generalize (k.get j).1.n = g3 at *
          go_wp2
          go_still_tail 8, (by kernel_rfl)
          change wpList _ _ _ _ _ wr.drew
          go_wp2_with (go_at_call 59; refine (HC.out _ HBD.out).mono ?_; rintro e w3 ⟨rfl, hb3⟩; have HB3 := Lib.hid hb3; clear hb3)
          go_ret
          exact ⟨ret_bool HR.out.symm, HI.out.below.drew.trans (HB3.out.mono HI.out.below.size)⟩
      · have hjt : ¬ j < t.size := by rw [HTS.out]; exact hj
        have hje : j = L := by omega
        have HJ := Lib.hid hje
        clear hje
        go_wp2
        go_ret
        exact ⟨ret_bool (HY.out (fun i hi => HI.out.al i hi (by rw [HJ.out, HL.out]; exact hi))).symm, HI.out.below⟩

end Go.Proofs.Ytcjhgefkbnbmnaa

/- The document's shape, whole. -/
namespace Go.Proofs.Ytcjhgefkbnbmnaa
open Go.RowKit LM
set_option linter.unusedVariables false

theorem Fo.get_ok : ∀ {k : Fo} {i : Nat}, k.ok → i < k.len → (k.get i).1.ok ∧ (k.get i).2.ok
  | .nil, _, _, h => by simp [Fo.len] at h
  | .cons h k r, 0, ho, _ => by rw [Fo.get_zero]; exact ⟨ho.1, ho.2.1⟩
  | .cons h k r, i + 1, ho, hi => by
    rw [Fo.get_succ]
    exact Fo.get_ok (k := r) (i := i) ho.2.2 (by simpa [Fo.len] using hi)
theorem shapeH (op : Int) (name : ByteArray) (h0 : 0 ≤ op) (h1 : op ≤ 255) (hn : name.size ≤ maxLen) : ShapeH op name :=
  ⟨fun w => Kids_any op w h0 h1, fun w => refWord_any name w (by unfold maxLen at hn; omega)⟩

theorem shape_any (m : Nat) : ∀ (h : Hd) (k : Fo) (s : Nat) (c : UInt8) (q : Option Addr) (cap : Nat) (w : World), k.size < m → h.ok → k.ok → (s = 1 ∨ s = 2) → c = ltr s → SlF w q cap k →
    Calls Try.prog 59 #[.agg #[.int .u8 h.op, .string h.name, .int .i64 h.n, .slice q k.len cap], .int .u8 c.toNat] w fun e w' => e = .returned (.bool (shape1 h k s)) ∧ Below w.heap.size w w' := by
  induction m with
  | zero => intro h k s c q cap w hm; omega
  | succ m ih =>
    intro h k s c q cap w hm hok kok hs hc hsl
    have H := Lib.hid (shapeH h.op h.name hok.op0 hok.op1 hok.name)
    cases hk : kidsL h.op with
    | none => rw [shape1_none hk]; exact shape_none _ _ _ _ _ _ s c w H hs hc hk
    | some ks =>
      by_cases hso : sortO h.op = s
      · by_cases hl : k.len = ks.length
        · by_cases hnm : nameB h = true
          · by_cases hn : numB h = true
            · rw [shape1_go hk hso (by rw [headB_eq, hnm, hn]; rfl)]
              refine shape_yes _ _ _ k cap q s c w H hs hc ks hk hso hl hnm hn hsl ?_
              intro i hi c' w' q' cap' hc' hsl'
              have hik : i < k.len := by omega
              exact ih _ _ _ c' q' cap' w' (by have := Fo.get_size hik; omega) (Fo.get_ok kok hik).1 (Fo.get_ok kok hik).2 ((kidsL_le hk).2 _ (List.getElem_mem _)) hc' hsl'
            · have hn' : numB h = false := by simpa using hn
              rw [shape1_head hk (by rw [headB_eq, hn']; simp)]
              by_cases h11 : h.op = 11
              · exact shape_numR _ _ _ _ _ _ s c w H hs hc ks hk hso hl h11 (by simpa [nameB, h11] using hnm) hn'
              · exact shape_numT _ _ _ _ _ _ s c w H hs hc ks hk hso hl h11 (by simpa [nameB, h11] using hnm) hn'
          · have hnm' : nameB h = false := by simpa using hnm
            rw [shape1_head hk (by rw [headB_eq, hnm']; simp)]
            by_cases h11 : h.op = 11
            · exact shape_word _ _ _ _ _ _ s c w H hs hc ks hk hso hl h11 (by simpa [nameB, h11] using hnm')
            · exact shape_name _ _ _ _ _ _ s c w H hs hc ks hk hso hl h11 (by simpa [nameB, h11] using hnm')
        · rw [shape1_len hk hl]; exact shape_len _ _ _ _ _ _ s c w H hs hc ks hk hso hl
      · rw [shape1_sort hk hso]; exact shape_sort _ _ _ _ _ _ s c w H hs hc ks hk hso

end Go.Proofs.Ytcjhgefkbnbmnaa
