/- The document's shape. -/
import Derived.Test.YtaaohaihajccgaaKdT
namespace Go.Proofs.Ytaaohaihajccgaa
open Go.RowKit LM
set_option linter.unusedVariables false

/-- What shape asks of its callees. -/
structure ShapeH (op : Int) (name : ByteArray) : Prop where
  kids : ∀ w, Calls Try.prog 64 #[.int .u8 op] w fun e w' => e = .returned (.tuple #[.string (kidsS op), .bool (kidsL op).isSome]) ∧ w = w'
  word : ∀ w, Calls Try.prog 65 #[.string name] w fun e w' => e = .returned (.bool (wordL name.toList)) ∧ Below w.heap.size w w'

set_option maxRecDepth 100000 in
theorem shape_none (op : Int) (name : ByteArray) (n : Int) (L cap : Nat) (q : Option Addr) (s : Nat) (c : UInt8) (w : World) (H : Hid (ShapeH op name)) (hs : s = 1 ∨ s = 2) (hc : c = ltr s) (hk : kidsL op = none) :
    Calls Try.prog 47 #[.agg #[.int .u8 op, .string name, .int .i64 n, .slice q L cap], .int .u8 c.toNat] w fun e w' => e = .returned (.bool false) ∧ Below w.heap.size w w' := by
  have HK := Lib.hid H.out.kids
  have HW := Lib.hid H.out.word
  clear H
  have e1 : (kidsL op).isSome = false := by rw [hk]; rfl
  rw [e1] at HK
  clear hk e1 hs hc
  generalize kidsS op = t at *
  go_enter Try.func47, Try.ntmps47
  go_wp2_with (go_at_call 64; refine (HK.out _).mono ?_; rintro e w' ⟨rfl, rfl⟩)
  go_ret
  exact ⟨rfl, below_box _ _⟩

set_option maxRecDepth 100000 in
theorem shape_sort (op : Int) (name : ByteArray) (n : Int) (L cap : Nat) (q : Option Addr) (s : Nat) (c : UInt8) (w : World) (H : Hid (ShapeH op name)) (hs : s = 1 ∨ s = 2) (hc : c = ltr s) (ks : List Nat) (hk : kidsL op = some ks) (hne : sortO op ≠ s) :
    Calls Try.prog 47 #[.agg #[.int .u8 op, .string name, .int .i64 n, .slice q L cap], .int .u8 c.toNat] w fun e w' => e = .returned (.bool false) ∧ Below w.heap.size w w' := by
  have HK := Lib.hid H.out.kids
  have HW := Lib.hid H.out.word
  clear H
  have e1 : (kidsL op).isSome = true := by rw [hk]; rfl
  have hop := kidsL_op hk
  rw [e1] at HK
  clear hk e1
  generalize kidsS op = t at *
  rcases hs with rfl | rfl
  · have hc' : c.toNat = 116 := by rw [hc]; rfl
    have h8 : 8 ≤ op := by
      by_cases h : op ≤ 7
      · exact absurd (sortO_1 hop.1 h) hne
      · omega
    rw [hc']
    clear hc hne hc'
    go_enter Try.func47, Try.ntmps47
    go_wp2_with (go_at_call 64; refine (HK.out _).mono ?_; rintro e w' ⟨rfl, rfl⟩)
    go_ret
    exact ⟨rfl, below_box _ _⟩
  · have hc' : c.toNat = 114 := by rw [hc]; rfl
    have h8 : op < 8 := by
      by_cases h : 8 ≤ op
      · exact absurd (sortO_2 h hop.2) hne
      · omega
    rw [hc']
    clear hc hne hc'
    go_enter Try.func47, Try.ntmps47
    go_wp2_with (go_at_call 64; refine (HK.out _).mono ?_; rintro e w' ⟨rfl, rfl⟩)
    go_ret
    exact ⟨rfl, below_box _ _⟩

set_option maxRecDepth 100000 in
theorem shape_len (op : Int) (name : ByteArray) (n : Int) (L cap : Nat) (q : Option Addr) (s : Nat) (c : UInt8) (w : World) (H : Hid (ShapeH op name)) (hs : s = 1 ∨ s = 2) (hc : c = ltr s) (ks : List Nat) (hk : kidsL op = some ks) (heq : sortO op = s) (hl : L ≠ ks.length) :
    Calls Try.prog 47 #[.agg #[.int .u8 op, .string name, .int .i64 n, .slice q L cap], .int .u8 c.toNat] w fun e w' => e = .returned (.bool false) ∧ Below w.heap.size w w' := by
  have HK := Lib.hid H.out.kids
  have HW := Lib.hid H.out.word
  clear H
  have e1 : (kidsL op).isSome = true := by rw [hk]; rfl
  have hop := kidsL_op hk
  have hsz0 := kidsS_size hk
  rw [e1] at HK
  have hcc : (c.toNat = 116 ∧ op < 8) ∨ (c.toNat = 114 ∧ 8 ≤ op) := by
    rcases hs with rfl | rfl
    · refine .inl ⟨by rw [hc]; rfl, ?_⟩
      by_cases h : op ≤ 7
      · omega
      · rw [sortO_2 (by omega) hop.2] at heq; omega
    · refine .inr ⟨by rw [hc]; rfl, ?_⟩
      by_cases h : 8 ≤ op
      · exact h
      · rw [sortO_1 hop.1 (by omega)] at heq; omega
  have hl' : ((L : Int) != ((kidsS op).size : Int)) = true := by rw [hsz0]; simp; omega
  clear hk e1 hs hc heq hl hsz0
  generalize kidsS op = t at *
  rcases hcc with ⟨hc, h8⟩ | ⟨hc, h8⟩
  all_goals
    rw [hc]
    clear hc
    go_enter Try.func47, Try.ntmps47
    go_wp2_with (go_at_call 64; refine (HK.out _).mono ?_; rintro e w' ⟨rfl, rfl⟩)
    go_ret
    exact ⟨rfl, below_box _ _⟩

set_option maxRecDepth 100000 in
theorem shape_word (op : Int) (name : ByteArray) (n : Int) (L cap : Nat) (q : Option Addr) (s : Nat) (c : UInt8) (w : World) (H : Hid (ShapeH op name)) (hs : s = 1 ∨ s = 2) (hc : c = ltr s) (ks : List Nat) (hk : kidsL op = some ks) (heq : sortO op = s) (hl : L = ks.length) (h11 : op = 11) (hw : wordL name.toList = false) :
    Calls Try.prog 47 #[.agg #[.int .u8 op, .string name, .int .i64 n, .slice q L cap], .int .u8 c.toNat] w fun e w' => e = .returned (.bool false) ∧ Below w.heap.size w w' := by
  have HK := Lib.hid H.out.kids
  have HW := Lib.hid H.out.word
  clear H
  have e1 : (kidsL op).isSome = true := by rw [hk]; rfl
  have hop := kidsL_op hk
  have hsz0 := kidsS_size hk
  rw [e1] at HK
  have hcc : (c.toNat = 116 ∧ op < 8) ∨ (c.toNat = 114 ∧ 8 ≤ op) := by
    rcases hs with rfl | rfl
    · refine .inl ⟨by rw [hc]; rfl, ?_⟩
      by_cases h : op ≤ 7
      · omega
      · rw [sortO_2 (by omega) hop.2] at heq; omega
    · refine .inr ⟨by rw [hc]; rfl, ?_⟩
      by_cases h : 8 ≤ op
      · exact h
      · rw [sortO_1 hop.1 (by omega)] at heq; omega
  have hl' : ((L : Int) != ((kidsS op).size : Int)) = false := by rw [hsz0, hl]; simp
  clear hk e1 hs heq hl hsz0
  rw [hw] at HW
  subst h11
  generalize kidsS 11 = t at *
  rcases hcc with ⟨hc', h8⟩ | ⟨hc', h8⟩
  · omega
  · rw [hc']
    clear hc hc' hw
    go_enter Try.func47, Try.ntmps47
    go_wp2_with (first | (go_at_call 64; refine (HK.out _).mono ?_; rintro e w' ⟨rfl, rfl⟩) | (go_at_call 65; refine (HW.out _).mono ?_; rintro e w2 ⟨rfl, hb2⟩; obtain ⟨hbc, hbf⟩ := bcell hb2; have hsz := hb2.size; have HB2 := Lib.hid hb2; clear hb2))
    go_ret
    exact ⟨rfl, below_then (below_box _ _) HB2.out⟩

set_option maxRecDepth 100000 in
theorem shape_name (op : Int) (name : ByteArray) (n : Int) (L cap : Nat) (q : Option Addr) (s : Nat) (c : UInt8) (w : World) (H : Hid (ShapeH op name)) (hs : s = 1 ∨ s = 2) (hc : c = ltr s) (ks : List Nat) (hk : kidsL op = some ks) (heq : sortO op = s) (hl : L = ks.length) (h11 : op ≠ 11) (hw : name.toList.isEmpty = false) :
    Calls Try.prog 47 #[.agg #[.int .u8 op, .string name, .int .i64 n, .slice q L cap], .int .u8 c.toNat] w fun e w' => e = .returned (.bool false) ∧ Below w.heap.size w w' := by
  have HK := Lib.hid H.out.kids
  have HW := Lib.hid H.out.word
  clear H
  have e1 : (kidsL op).isSome = true := by rw [hk]; rfl
  have hop := kidsL_op hk
  have hsz0 := kidsS_size hk
  rw [e1] at HK
  have hcc : (c.toNat = 116 ∧ op < 8) ∨ (c.toNat = 114 ∧ 8 ≤ op) := by
    rcases hs with rfl | rfl
    · refine .inl ⟨by rw [hc]; rfl, ?_⟩
      by_cases h : op ≤ 7
      · omega
      · rw [sortO_2 (by omega) hop.2] at heq; omega
    · refine .inr ⟨by rw [hc]; rfl, ?_⟩
      by_cases h : 8 ≤ op
      · exact h
      · rw [sortO_1 hop.1 (by omega)] at heq; omega
  have hl' : ((L : Int) != ((kidsS op).size : Int)) = false := by rw [hsz0, hl]; simp
  have h11' : (op == 11) = false := by simpa using h11
  have h11'' : (op != 11) = true := by simpa using h11
  have hw' : (!name.toList.isEmpty) = true := by simpa using hw
  clear hk e1 hs heq hl hsz0 h11 HW
  generalize kidsS op = t at *
  rcases hcc with ⟨hc', h8⟩ | ⟨hc', h8⟩
  all_goals
    rw [hc']
    clear hc hc'
    go_enter Try.func47, Try.ntmps47
    go_wp2_with (go_at_call 64; refine (HK.out _).mono ?_; rintro e w' ⟨rfl, rfl⟩)
    go_ret
    exact ⟨rfl, below_box _ _⟩

set_option maxRecDepth 100000 in
theorem shape_numR (op : Int) (name : ByteArray) (n : Int) (L cap : Nat) (q : Option Addr) (s : Nat) (c : UInt8) (w : World) (H : Hid (ShapeH op name)) (hs : s = 1 ∨ s = 2) (hc : c = ltr s) (ks : List Nat) (hk : kidsL op = some ks) (heq : sortO op = s) (hl : L = ks.length) (h11 : op = 11) (hw : wordL name.toList = true) (hn : numB ⟨op, name, n⟩ = false) :
    Calls Try.prog 47 #[.agg #[.int .u8 op, .string name, .int .i64 n, .slice q L cap], .int .u8 c.toNat] w fun e w' => e = .returned (.bool false) ∧ Below w.heap.size w w' := by
  have HK := Lib.hid H.out.kids
  have HW := Lib.hid H.out.word
  clear H
  have e1 : (kidsL op).isSome = true := by rw [hk]; rfl
  have hop := kidsL_op hk
  have hsz0 := kidsS_size hk
  rw [e1] at HK
  have hcc : (c.toNat = 116 ∧ op < 8) ∨ (c.toNat = 114 ∧ 8 ≤ op) := by
    rcases hs with rfl | rfl
    · refine .inl ⟨by rw [hc]; rfl, ?_⟩
      by_cases h : op ≤ 7
      · omega
      · rw [sortO_2 (by omega) hop.2] at heq; omega
    · refine .inr ⟨by rw [hc]; rfl, ?_⟩
      by_cases h : 8 ≤ op
      · exact h
      · rw [sortO_1 hop.1 (by omega)] at heq; omega
  have hl' : ((L : Int) != ((kidsS op).size : Int)) = false := by rw [hsz0, hl]; simp
  have hn' : n < 0 ∨ (0 ≤ n ∧ op ≠ 7 ∧ op ≠ 10 ∧ n ≠ 0) := by
    simp only [numB, Bool.and_eq_false_iff, Bool.or_eq_false_iff, decide_eq_false_iff_not] at hn
    by_cases h : n < 0
    · exact .inl h
    · right; rcases hn with h1 | ⟨⟨h1, h2⟩, h3⟩
      · omega
      · exact ⟨by omega, h1, h2, h3⟩
  clear hk e1 hs heq hl hsz0 hn
  rw [hw] at HW
  subst h11
  generalize kidsS 11 = t at *
  rcases hcc with ⟨hc', h8⟩ | ⟨hc', h8⟩
  · omega
  · rw [hc']
    clear hc hc' hw
    rcases hn' with hn | ⟨hn, h7, h10, h0⟩
    · go_enter Try.func47, Try.ntmps47
      go_wp2_with (first | (go_at_call 64; refine (HK.out _).mono ?_; rintro e w' ⟨rfl, rfl⟩) | (go_at_call 65; refine (HW.out _).mono ?_; rintro e w2 ⟨rfl, hb2⟩; obtain ⟨hbc, hbf⟩ := bcell hb2; have hsz := hb2.size; have HB2 := Lib.hid hb2; clear hb2))
      go_ret
      exact ⟨rfl, below_then (below_box _ _) HB2.out⟩
    · have h0' : (n != 0) = true := by simpa using h0
      go_enter Try.func47, Try.ntmps47
      go_wp2_with (first | (go_at_call 64; refine (HK.out _).mono ?_; rintro e w' ⟨rfl, rfl⟩) | (go_at_call 65; refine (HW.out _).mono ?_; rintro e w2 ⟨rfl, hb2⟩; obtain ⟨hbc, hbf⟩ := bcell hb2; have hsz := hb2.size; have HB2 := Lib.hid hb2; clear hb2))
      go_ret
      exact ⟨rfl, below_then (below_box _ _) HB2.out⟩

set_option maxRecDepth 100000 in
theorem shape_numT (op : Int) (name : ByteArray) (n : Int) (L cap : Nat) (q : Option Addr) (s : Nat) (c : UInt8) (w : World) (H : Hid (ShapeH op name)) (hs : s = 1 ∨ s = 2) (hc : c = ltr s) (ks : List Nat) (hk : kidsL op = some ks) (heq : sortO op = s) (hl : L = ks.length) (h11 : op ≠ 11) (hw : name.toList.isEmpty = true) (hn : numB ⟨op, name, n⟩ = false) :
    Calls Try.prog 47 #[.agg #[.int .u8 op, .string name, .int .i64 n, .slice q L cap], .int .u8 c.toNat] w fun e w' => e = .returned (.bool false) ∧ Below w.heap.size w w' := by
  have HK := Lib.hid H.out.kids
  have HW := Lib.hid H.out.word
  clear H
  have e1 : (kidsL op).isSome = true := by rw [hk]; rfl
  have hop := kidsL_op hk
  have hsz0 := kidsS_size hk
  rw [e1] at HK
  have hcc : (c.toNat = 116 ∧ op < 8) ∨ (c.toNat = 114 ∧ 8 ≤ op) := by
    rcases hs with rfl | rfl
    · refine .inl ⟨by rw [hc]; rfl, ?_⟩
      by_cases h : op ≤ 7
      · omega
      · rw [sortO_2 (by omega) hop.2] at heq; omega
    · refine .inr ⟨by rw [hc]; rfl, ?_⟩
      by_cases h : 8 ≤ op
      · exact h
      · rw [sortO_1 hop.1 (by omega)] at heq; omega
  have hl' : ((L : Int) != ((kidsS op).size : Int)) = false := by rw [hsz0, hl]; simp
  have hn' : n < 0 ∨ (0 ≤ n ∧ op ≠ 7 ∧ op ≠ 10 ∧ n ≠ 0) := by
    simp only [numB, Bool.and_eq_false_iff, Bool.or_eq_false_iff, decide_eq_false_iff_not] at hn
    by_cases h : n < 0
    · exact .inl h
    · right; rcases hn with h1 | ⟨⟨h1, h2⟩, h3⟩
      · omega
      · exact ⟨by omega, h1, h2, h3⟩
  have h11' : (op == 11) = false := by simpa using h11
  have h11'' : (op != 11) = true := by simpa using h11
  have hw' : (!name.toList.isEmpty) = false := by simpa using hw
  have hw'' : name.toList = [] := by simpa using hw
  clear hk e1 hs heq hl hsz0 h11 HW hn
  generalize kidsS op = t at *
  rcases hn' with hn | ⟨hn, h7, h10, h0⟩
  · rcases hcc with ⟨hc', h8⟩ | ⟨hc', h8⟩
    all_goals
      rw [hc']
      clear hc hc'
      go_enter Try.func47, Try.ntmps47
      go_wp2_with (go_at_call 64; refine (HK.out _).mono ?_; rintro e w' ⟨rfl, rfl⟩)
      go_ret
      exact ⟨rfl, below_box _ _⟩
  · have h0' : (n != 0) = true := by simpa using h0
    have h7' : (op != 7) = true := by simpa using h7
    have h10' : (op != 10) = true := by simpa using h10
    rcases hcc with ⟨hc', h8⟩ | ⟨hc', h8⟩
    all_goals
      rw [hc']
      clear hc hc' h0 h7 h10
      go_enter Try.func47, Try.ntmps47
      go_wp2_with (go_at_call 64; refine (HK.out _).mono ?_; rintro e w' ⟨rfl, rfl⟩)
      go_ret
      exact ⟨rfl, below_box _ _⟩

end Go.Proofs.Ytaaohaihajccgaa
