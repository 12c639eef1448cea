/- The document's shape: all Kids. -/
import Derived.Test.YtaaohaihajccgaaKdU
namespace Go.Proofs.Ytaaohaihajccgaa
open Go.RowKit LM
set_option linter.unusedVariables false

/-- What shape keeps while it goes along the Kids. -/
structure ShI (w : World) (op : Int) (name : ByteArray) (n : Int) (k : Fo) (ks : List Nat) (q : Option Addr) (L cap j : Nat) (wr : World) : Prop where
  le : j ≤ L
  al : ∀ i (h : i < ks.length), i < j → shape1 (k.get i).1 (k.get i).2 ks[i] = true
  box : wr.heap[w.heap.size]? = some (.cells #[.int .u8 op, .string name, .int .i64 n, .slice q L cap] 25 (0, 0))
  below : Below w.heap.size w wr
theorem ShI.start {w w1 : World} {op : Int} {name : ByteArray} {n : Int} {k : Fo} {ks : List Nat} {q : Option Addr} {L cap : Nat} (hb : Below (w.alloc (.cells #[.int .u8 op, .string name, .int .i64 n, .slice q L cap] 25)).heap.size (w.alloc (.cells #[.int .u8 op, .string name, .int .i64 n, .slice q L cap] 25)) w1) :
    ShI w op name n k ks q L cap 0 w1 :=
  ⟨Nat.zero_le _, fun i h hi => by omega, (hb.block _ (by simp)).trans (World.alloc_heap_new w _), below_then (below_box _ _) hb⟩
theorem ShI.go {w : World} {op : Int} {name : ByteArray} {n : Int} {k : Fo} {ks : List Nat} {q : Option Addr} {L cap j : Nat} {wr w2 : World} (h : ShI w op name n k ks q L cap j wr) (hb : Below wr.drew.heap.size wr.drew w2) (hj : j < L) (he : ∀ hk : j < ks.length, shape1 (k.get j).1 (k.get j).2 ks[j] = true) :
    ShI w op name n k ks q L cap (j + 1) w2 :=
  ⟨hj, fun i hk hi => by
    by_cases hij : i = j
    · subst hij; exact he hk
    · exact h.al i hk (by omega), (hb.block _ (Array.getElem?_eq_some_iff.1 h.box).1).trans h.box, h.below.drew.trans (hb.mono h.below.size)⟩

/-- What is known of the Kids. -/
def ShKids (w : World) (k : Fo) (ks : List Nat) : Prop :=
  ∀ (i : Nat) (h : i < ks.length) (c : UInt8) (w' : World) (q' : Option Addr) (cap' : Nat), c = ltr ks[i] → SlF w' q' cap' (k.get i).2 →
    Calls Try.prog 47 #[.agg #[.int .u8 (k.get i).1.op, .string (k.get i).1.name, .int .i64 (k.get i).1.n, .slice q' (k.get i).2.len cap'], .int .u8 c.toNat] w' fun e w2 => e = .returned (.bool (shape1 (k.get i).1 (k.get i).2 ks[i])) ∧ Below w'.heap.size w' w2

set_option maxRecDepth 100000 in
set_option maxHeartbeats 2000000 in
theorem shape_yes (op : Int) (name : ByteArray) (n : Int) (k : Fo) (cap : Nat) (q : Option Addr) (s : Nat) (c : UInt8) (w : World) (H : Hid (ShapeH op name)) (hs : s = 1 ∨ s = 2) (hc : c = ltr s) (ks : List Nat) (hk : kidsL op = some ks) (heq : sortO op = s) (hl : k.len = ks.length)
    (hnm : nameB ⟨op, name, n⟩ = true) (hn : numB ⟨op, name, n⟩ = true) (hsl : SlF w q cap k) (hih : ShKids w k ks) :
    Calls Try.prog 47 #[.agg #[.int .u8 op, .string name, .int .i64 n, .slice q k.len cap], .int .u8 c.toNat] w fun e w' => e = .returned (.bool (k.shapes ks)) ∧ Below w.heap.size w w' := by
  have HK := Lib.hid H.out.kids
  have HW := Lib.hid H.out.word
  clear H
  have e1 : (kidsL op).isSome = true := by rw [hk]; rfl
  have hop := kidsL_op hk
  have hsz0 := kidsS_size hk
  rw [e1] at HK
  have HT := Lib.hid fun i h1 h2 => kidsS_get hk i h1 h2
  have HY : Hid ((∀ i (h : i < ks.length), shape1 (k.get i).1 (k.get i).2 ks[i] = true) → k.shapes ks = true) := Lib.hid (Fo.shapes_get hl).2
  have HN : Hid (∀ i (h : i < ks.length), shape1 (k.get i).1 (k.get i).2 ks[i] = false → k.shapes ks = false) := Lib.hid (fun i h hf => by
    rw [Bool.eq_false_iff]; intro ht; have := (Fo.shapes_get hl).1 ht i h; rw [hf] at this; cases this)
  have hle := (kidsL_le hk).1
  have hcs : (op = 11 ∧ wordL name.toList = true ∧ n = 0 ∧ c.toNat = 114) ∨ (op ≠ 11 ∧ name.toList = [] ∧ 0 ≤ n ∧ ((op = 7 ∧ c.toNat = 116) ∨ (op = 10 ∧ c.toNat = 114) ∨ (n = 0 ∧ (op < 8 ∧ op ≠ 7) ∧ c.toNat = 116) ∨ (n = 0 ∧ (8 ≤ op ∧ op ≠ 10) ∧ c.toNat = 114))) := by
    have hcc : (c.toNat = 116 ∧ op < 8) ∨ (c.toNat = 114 ∧ 8 ≤ op) := by
      rcases hs with rfl | rfl
      · refine .inl ⟨by rw [hc]; rfl, ?_⟩
        by_cases h : op ≤ 7
        · omega
        · rw [sortO_2 (by omega) hop.2] at heq; omega
      · refine .inr ⟨by rw [hc]; rfl, ?_⟩
        by_cases h : 8 ≤ op
        · exact h
        · rw [sortO_1 hop.1 (by omega)] at heq; omega
    simp only [nameB] at hnm
    simp only [numB, Bool.and_eq_true, Bool.or_eq_true, decide_eq_true_eq] at hn
    by_cases h11 : op = 11
    · rw [if_pos h11] at hnm
      exact .inl ⟨h11, hnm, by omega, by omega⟩
    · rw [if_neg h11] at hnm
      exact .inr ⟨h11, by simpa using hnm, hn.1, by omega⟩
  have HIH := Lib.hid hih
  have HSL := Lib.hid hsl
  have HL := Lib.hid hl
  have hlc := hsl.lc
  have hcm := hsl.cm
  unfold maxLen at hcm
  have hsz1 : (kidsS op).size = k.len := by rw [hsz0, hl]
  clear hc hs heq hnm hn hih hsl hl hsz0 hk e1
  generalize k.shapes ks = r at *
  generalize kidsS op = t at *
  generalize hLd : k.len = L at *
  have HLD := Lib.hid hLd
  clear hLd
  have hl' : ((L : Int) != (t.size : Int)) = false := by rw [hsz1]; simp
  have hL2 : L ≤ 2 := by rw [HL.out]; exact hle
  have hsame : ∀ w' : World, ShI w op name n k ks q L cap 0 (w.alloc (.cells #[.int .u8 op, .string name, .int .i64 n, .slice q L cap] 25)) := fun _ => ShI.start (Below.refl _ _)
  have HSA := Lib.hid hsame
  have HST := Lib.hid fun (w1 : World) (hb : Below (w.alloc (.cells #[.int .u8 op, .string name, .int .i64 n, .slice q L cap] 25)).heap.size (w.alloc (.cells #[.int .u8 op, .string name, .int .i64 n, .slice q L cap] 25)) w1) => ShI.start (k := k) (ks := ks) hb
  have HTS := Lib.hid hsz1
  clear hsame hsz1
  rcases hcs with ⟨rfl, hw, rfl, hc⟩ | ⟨h11, hw, hn0, ⟨rfl, hc⟩ | ⟨rfl, hc⟩ | ⟨rfl, ⟨h8, h7⟩, hc⟩ | ⟨rfl, ⟨h8, h7⟩, hc⟩⟩
  · rw [hw] at HW
    rw [hc]
    clear hw hc
    go_enter Try.func47, Try.ntmps47
    go_wp2_with (first | (go_at_call 64; refine (HK.out _).mono ?_; rintro e w' ⟨rfl, rfl⟩) | (go_at_call 65; refine (HW.out _).mono ?_; rintro e w2 ⟨rfl, hb2⟩; have hst := HST.out _ hb2; obtain ⟨x0, x1, x2, x3, _⟩ := row4 hst.box; have HSX := Lib.hid hst; clear hb2 hst))
    go_loopw [7] (fun i wr => ∃ j : Nat, i = .int .i64 j ∧ ShI w 11 name 0 k ks q L cap j wr) (fun i _ => L - (intOf i).toNat)
    case atStart => exact ⟨0, rfl, HSX.out⟩
    case round =>
      obtain ⟨j, rfl, hI⟩ := hrel
      obtain ⟨y0, y1, y2, y3, _⟩ := row4 hI.box
      have hjL := hI.le
      have HI := Lib.hid hI
      clear hI
      by_cases hj : j < L
      · have hjt : j < t.size := by rw [HTS.out]; exact hj
        have hjk : j < k.len := by rw [HLD.out]; exact hj
        have hjs : j < ks.length := by rw [← HL.out]; exact hj
        obtain ⟨b, o, rfl, hfo⟩ := ((HSL.out.below HI.out.below).at_ (Nat.lt_of_le_of_lt (Nat.zero_le _) hjk))
        obtain ⟨q1, cap1, hd1, hs1⟩ := hfo.get j hjk
        have c0 := hd1.c0
        have c1 := hd1.c1
        have c2 := hd1.c2
        have c3 := hd1.c3
        have HC := Lib.hid fun w' hb => HIH.out j hjs t[j] w' q1 cap1 (HT.out j hjt hjs) (hs1.below (w := wr) hb)
        have HBD : Hid (Below wr.heap.size wr wr.drew) := Lib.hid (Below.refl _ _).drew
        clear hd1 hfo hs1
        by_cases hsh : shape1 (k.get j).1 (k.get j).2 ks[j] = true
        · have HSH := Lib.hid hsh
          rw [hsh] at HC
          clear hsh
          generalize (k.get j).1.op = g1 at *
          generalize (k.get j).1.name = g2 at *
          generalize (k.get j).1.n = g3 at *
          go_wp2
          go_still_tail 8, (by kernel_rfl)
          change wpList _ _ _ _ _ wr.drew
          go_wp2_with (go_at_call 47; refine (HC.out _ HBD.out).mono ?_; rintro e w3 ⟨rfl, hb3⟩; have HB3 := Lib.hid hb3; clear hb3)
          go_roundw
          case rel => exact ⟨j + 1, by go_num, HI.out.go HB3.out hj (fun _ => HSH.out)⟩
          case measure => simp [intOf]; omega
        · have hsh' : shape1 (k.get j).1 (k.get j).2 ks[j] = false := by simpa using hsh
          have HR := Lib.hid (HN.out j hjs hsh')
          rw [hsh'] at HC
          clear hsh hsh'
          generalize (k.get j).1.op = g1 at *
          generalize (k.get j).1.name = g2 at *
          generalize (k.get j).1.n = g3 at *
          go_wp2
          go_still_tail 8, (by kernel_rfl)
          change wpList _ _ _ _ _ wr.drew
          go_wp2_with (go_at_call 47; refine (HC.out _ HBD.out).mono ?_; rintro e w3 ⟨rfl, hb3⟩; have HB3 := Lib.hid hb3; clear hb3)
          go_ret
          exact ⟨ret_bool HR.out.symm, HI.out.below.drew.trans (HB3.out.mono HI.out.below.size)⟩
      · have hjt : ¬ j < t.size := by rw [HTS.out]; exact hj
        have hje : j = L := by omega
        have HJ := Lib.hid hje
        clear hje
        go_wp2
        go_ret
        exact ⟨ret_bool (HY.out (fun i hi => HI.out.al i hi (by rw [HJ.out, HL.out]; exact hi))).symm, HI.out.below⟩
  · rw [hc]
    have hw' : (!name.toList.isEmpty) = false := by simp [hw]
    clear hc HW
    clear h11
    go_enter Try.func47, Try.ntmps47
    go_wp2_with (go_at_call 64; refine (HK.out _).mono ?_; rintro e w' ⟨rfl, rfl⟩)
    go_loopw [7] (fun i wr => ∃ j : Nat, i = .int .i64 j ∧ ShI w 7 name n k ks q L cap j wr) (fun i _ => L - (intOf i).toNat)
    case atStart => exact ⟨0, rfl, HSA.out w⟩
    case round =>
      obtain ⟨j, rfl, hI⟩ := hrel
      obtain ⟨y0, y1, y2, y3, _⟩ := row4 hI.box
      have hjL := hI.le
      have HI := Lib.hid hI
      clear hI
      by_cases hj : j < L
      · have hjt : j < t.size := by rw [HTS.out]; exact hj
        have hjk : j < k.len := by rw [HLD.out]; exact hj
        have hjs : j < ks.length := by rw [← HL.out]; exact hj
        obtain ⟨b, o, rfl, hfo⟩ := ((HSL.out.below HI.out.below).at_ (Nat.lt_of_le_of_lt (Nat.zero_le _) hjk))
        obtain ⟨q1, cap1, hd1, hs1⟩ := hfo.get j hjk
        have c0 := hd1.c0
        have c1 := hd1.c1
        have c2 := hd1.c2
        have c3 := hd1.c3
        have HC := Lib.hid fun w' hb => HIH.out j hjs t[j] w' q1 cap1 (HT.out j hjt hjs) (hs1.below (w := wr) hb)
        have HBD : Hid (Below wr.heap.size wr wr.drew) := Lib.hid (Below.refl _ _).drew
        clear hd1 hfo hs1
        by_cases hsh : shape1 (k.get j).1 (k.get j).2 ks[j] = true
        · have HSH := Lib.hid hsh
          rw [hsh] at HC
          clear hsh
          generalize (k.get j).1.op = g1 at *
          generalize (k.get j).1.name = g2 at *
          generalize (k.get j).1.n = g3 at *
          go_wp2
          go_still_tail 8, (by kernel_rfl)
          change wpList _ _ _ _ _ wr.drew
          go_wp2_with (go_at_call 47; refine (HC.out _ HBD.out).mono ?_; rintro e w3 ⟨rfl, hb3⟩; have HB3 := Lib.hid hb3; clear hb3)
          go_roundw
          case rel => exact ⟨j + 1, by go_num, HI.out.go HB3.out hj (fun _ => HSH.out)⟩
          case measure => simp [intOf]; omega
        · have hsh' : shape1 (k.get j).1 (k.get j).2 ks[j] = false := by simpa using hsh
          have HR := Lib.hid (HN.out j hjs hsh')
          rw [hsh'] at HC
          clear hsh hsh'
          generalize (k.get j).1.op = g1 at *
          generalize (k.get j).1.name = g2 at *
          generalize (k.get j).1.n = g3 at *
          go_wp2
          go_still_tail 8, (by kernel_rfl)
          change wpList _ _ _ _ _ wr.drew
          go_wp2_with (go_at_call 47; refine (HC.out _ HBD.out).mono ?_; rintro e w3 ⟨rfl, hb3⟩; have HB3 := Lib.hid hb3; clear hb3)
          go_ret
          exact ⟨ret_bool HR.out.symm, HI.out.below.drew.trans (HB3.out.mono HI.out.below.size)⟩
      · have hjt : ¬ j < t.size := by rw [HTS.out]; exact hj
        have hje : j = L := by omega
        have HJ := Lib.hid hje
        clear hje
        go_wp2
        go_ret
        exact ⟨ret_bool (HY.out (fun i hi => HI.out.al i hi (by rw [HJ.out, HL.out]; exact hi))).symm, HI.out.below⟩
  · rw [hc]
    have hw' : (!name.toList.isEmpty) = false := by simp [hw]
    clear hc HW
    clear h11
    go_enter Try.func47, Try.ntmps47
    go_wp2_with (go_at_call 64; refine (HK.out _).mono ?_; rintro e w' ⟨rfl, rfl⟩)
    go_loopw [7] (fun i wr => ∃ j : Nat, i = .int .i64 j ∧ ShI w 10 name n k ks q L cap j wr) (fun i _ => L - (intOf i).toNat)
    case atStart => exact ⟨0, rfl, HSA.out w⟩
    case round =>
      obtain ⟨j, rfl, hI⟩ := hrel
      obtain ⟨y0, y1, y2, y3, _⟩ := row4 hI.box
      have hjL := hI.le
      have HI := Lib.hid hI
      clear hI
      by_cases hj : j < L
      · have hjt : j < t.size := by rw [HTS.out]; exact hj
        have hjk : j < k.len := by rw [HLD.out]; exact hj
        have hjs : j < ks.length := by rw [← HL.out]; exact hj
        obtain ⟨b, o, rfl, hfo⟩ := ((HSL.out.below HI.out.below).at_ (Nat.lt_of_le_of_lt (Nat.zero_le _) hjk))
        obtain ⟨q1, cap1, hd1, hs1⟩ := hfo.get j hjk
        have c0 := hd1.c0
        have c1 := hd1.c1
        have c2 := hd1.c2
        have c3 := hd1.c3
        have HC := Lib.hid fun w' hb => HIH.out j hjs t[j] w' q1 cap1 (HT.out j hjt hjs) (hs1.below (w := wr) hb)
        have HBD : Hid (Below wr.heap.size wr wr.drew) := Lib.hid (Below.refl _ _).drew
        clear hd1 hfo hs1
        by_cases hsh : shape1 (k.get j).1 (k.get j).2 ks[j] = true
        · have HSH := Lib.hid hsh
          rw [hsh] at HC
          clear hsh
          generalize (k.get j).1.op = g1 at *
          generalize (k.get j).1.name = g2 at *
          generalize (k.get j).1.n = g3 at *
          go_wp2
          go_still_tail 8, (by kernel_rfl)
          change wpList _ _ _ _ _ wr.drew
          go_wp2_with (go_at_call 47; refine (HC.out _ HBD.out).mono ?_; rintro e w3 ⟨rfl, hb3⟩; have HB3 := Lib.hid hb3; clear hb3)
          go_roundw
          case rel => exact ⟨j + 1, by go_num, HI.out.go HB3.out hj (fun _ => HSH.out)⟩
          case measure => simp [intOf]; omega
        · have hsh' : shape1 (k.get j).1 (k.get j).2 ks[j] = false := by simpa using hsh
          have HR := Lib.hid (HN.out j hjs hsh')
          rw [hsh'] at HC
          clear hsh hsh'
          generalize (k.get j).1.op = g1 at *
          generalize (k.get j).1.name = g2 at *
          generalize (k.get j).1.n = g3 at *
          go_wp2
          go_still_tail 8, (by kernel_rfl)
          change wpList _ _ _ _ _ wr.drew
          go_wp2_with (go_at_call 47; refine (HC.out _ HBD.out).mono ?_; rintro e w3 ⟨rfl, hb3⟩; have HB3 := Lib.hid hb3; clear hb3)
          go_ret
          exact ⟨ret_bool HR.out.symm, HI.out.below.drew.trans (HB3.out.mono HI.out.below.size)⟩
      · have hjt : ¬ j < t.size := by rw [HTS.out]; exact hj
        have hje : j = L := by omega
        have HJ := Lib.hid hje
        clear hje
        go_wp2
        go_ret
        exact ⟨ret_bool (HY.out (fun i hi => HI.out.al i hi (by rw [HJ.out, HL.out]; exact hi))).symm, HI.out.below⟩
  · rw [hc]
    have hw' : (!name.toList.isEmpty) = false := by simp [hw]
    clear hc HW
    have h11' : (op == 11) = false := by simpa using h11
    have h11'' : (op != 11) = true := by simpa using h11
    have h7' : (op != 7) = true := by rw [bne_iff_ne]; omega
    have h10' : (op != 10) = true := by rw [bne_iff_ne]; omega
    clear h11 h7
    go_enter Try.func47, Try.ntmps47
    go_wp2_with (go_at_call 64; refine (HK.out _).mono ?_; rintro e w' ⟨rfl, rfl⟩)
    go_loopw [7] (fun i wr => ∃ j : Nat, i = .int .i64 j ∧ ShI w op name 0 k ks q L cap j wr) (fun i _ => L - (intOf i).toNat)
    case atStart => exact ⟨0, rfl, HSA.out w⟩
    case round =>
      obtain ⟨j, rfl, hI⟩ := hrel
      obtain ⟨y0, y1, y2, y3, _⟩ := row4 hI.box
      have hjL := hI.le
      have HI := Lib.hid hI
      clear hI
      by_cases hj : j < L
      · have hjt : j < t.size := by rw [HTS.out]; exact hj
        have hjk : j < k.len := by rw [HLD.out]; exact hj
        have hjs : j < ks.length := by rw [← HL.out]; exact hj
        obtain ⟨b, o, rfl, hfo⟩ := ((HSL.out.below HI.out.below).at_ (Nat.lt_of_le_of_lt (Nat.zero_le _) hjk))
        obtain ⟨q1, cap1, hd1, hs1⟩ := hfo.get j hjk
        have c0 := hd1.c0
        have c1 := hd1.c1
        have c2 := hd1.c2
        have c3 := hd1.c3
        have HC := Lib.hid fun w' hb => HIH.out j hjs t[j] w' q1 cap1 (HT.out j hjt hjs) (hs1.below (w := wr) hb)
        have HBD : Hid (Below wr.heap.size wr wr.drew) := Lib.hid (Below.refl _ _).drew
        clear hd1 hfo hs1
        by_cases hsh : shape1 (k.get j).1 (k.get j).2 ks[j] = true
        · have HSH := Lib.hid hsh
          rw [hsh] at HC
          clear hsh
          generalize (k.get j).1.op = g1 at *
          generalize (k.get j).1.name = g2 at *
          generalize (k.get j).1.n = g3 at *
          go_wp2
          go_still_tail 8, (by kernel_rfl)
          change wpList _ _ _ _ _ wr.drew
          go_wp2_with (go_at_call 47; refine (HC.out _ HBD.out).mono ?_; rintro e w3 ⟨rfl, hb3⟩; have HB3 := Lib.hid hb3; clear hb3)
          go_roundw
          case rel => exact ⟨j + 1, by go_num, HI.out.go HB3.out hj (fun _ => HSH.out)⟩
          case measure => simp [intOf]; omega
        · have hsh' : shape1 (k.get j).1 (k.get j).2 ks[j] = false := by simpa using hsh
          have HR := Lib.hid (HN.out j hjs hsh')
          rw [hsh'] at HC
          clear hsh hsh'
          generalize (k.get j).1.op = g1 at *
          generalize (k.get j).1.name = g2 at *
          generalize (k.get j).1.n = g3 at *
          go_wp2
          go_still_tail 8, (by kernel_rfl)
          change wpList _ _ _ _ _ wr.drew
          go_wp2_with (go_at_call 47; refine (HC.out _ HBD.out).mono ?_; rintro e w3 ⟨rfl, hb3⟩; have HB3 := Lib.hid hb3; clear hb3)
          go_ret
          exact ⟨ret_bool HR.out.symm, HI.out.below.drew.trans (HB3.out.mono HI.out.below.size)⟩
      · have hjt : ¬ j < t.size := by rw [HTS.out]; exact hj
        have hje : j = L := by omega
        have HJ := Lib.hid hje
        clear hje
        go_wp2
        go_ret
        exact ⟨ret_bool (HY.out (fun i hi => HI.out.al i hi (by rw [HJ.out, HL.out]; exact hi))).symm, HI.out.below⟩
  · rw [hc]
    have hw' : (!name.toList.isEmpty) = false := by simp [hw]
    clear hc HW
    have h11' : (op == 11) = false := by simpa using h11
    have h11'' : (op != 11) = true := by simpa using h11
    have h7' : (op != 7) = true := by rw [bne_iff_ne]; omega
    have h10' : (op != 10) = true := by rw [bne_iff_ne]; omega
    clear h11 h7
    go_enter Try.func47, Try.ntmps47
    go_wp2_with (go_at_call 64; refine (HK.out _).mono ?_; rintro e w' ⟨rfl, rfl⟩)
    go_loopw [7] (fun i wr => ∃ j : Nat, i = .int .i64 j ∧ ShI w op name 0 k ks q L cap j wr) (fun i _ => L - (intOf i).toNat)
    case atStart => exact ⟨0, rfl, HSA.out w⟩
    case round =>
      obtain ⟨j, rfl, hI⟩ := hrel
      obtain ⟨y0, y1, y2, y3, _⟩ := row4 hI.box
      have hjL := hI.le
      have HI := Lib.hid hI
      clear hI
      by_cases hj : j < L
      · have hjt : j < t.size := by rw [HTS.out]; exact hj
        have hjk : j < k.len := by rw [HLD.out]; exact hj
        have hjs : j < ks.length := by rw [← HL.out]; exact hj
        obtain ⟨b, o, rfl, hfo⟩ := ((HSL.out.below HI.out.below).at_ (Nat.lt_of_le_of_lt (Nat.zero_le _) hjk))
        obtain ⟨q1, cap1, hd1, hs1⟩ := hfo.get j hjk
        have c0 := hd1.c0
        have c1 := hd1.c1
        have c2 := hd1.c2
        have c3 := hd1.c3
        have HC := Lib.hid fun w' hb => HIH.out j hjs t[j] w' q1 cap1 (HT.out j hjt hjs) (hs1.below (w := wr) hb)
        have HBD : Hid (Below wr.heap.size wr wr.drew) := Lib.hid (Below.refl _ _).drew
        clear hd1 hfo hs1
        by_cases hsh : shape1 (k.get j).1 (k.get j).2 ks[j] = true
        · have HSH := Lib.hid hsh
          rw [hsh] at HC
          clear hsh
          generalize (k.get j).1.op = g1 at *
          generalize (k.get j).1.name = g2 at *
          generalize (k.get j).1.n = g3 at *
          go_wp2
          go_still_tail 8, (by kernel_rfl)
          change wpList _ _ _ _ _ wr.drew
          go_wp2_with (go_at_call 47; refine (HC.out _ HBD.out).mono ?_; rintro e w3 ⟨rfl, hb3⟩; have HB3 := Lib.hid hb3; clear hb3)
          go_roundw
          case rel => exact ⟨j + 1, by go_num, HI.out.go HB3.out hj (fun _ => HSH.out)⟩
          case measure => simp [intOf]; omega
        · have hsh' : shape1 (k.get j).1 (k.get j).2 ks[j] = false := by simpa using hsh
          have HR := Lib.hid (HN.out j hjs hsh')
          rw [hsh'] at HC
          clear hsh hsh'
          generalize (k.get j).1.op = g1 at *
          generalize (k.get j).1.name = g2 at *
          generalize (k.get j).1.n = g3 at *
          go_wp2
          go_still_tail 8, (by kernel_rfl)
          change wpList _ _ _ _ _ wr.drew
          go_wp2_with (go_at_call 47; refine (HC.out _ HBD.out).mono ?_; rintro e w3 ⟨rfl, hb3⟩; have HB3 := Lib.hid hb3; clear hb3)
          go_ret
          exact ⟨ret_bool HR.out.symm, HI.out.below.drew.trans (HB3.out.mono HI.out.below.size)⟩
      · have hjt : ¬ j < t.size := by rw [HTS.out]; exact hj
        have hje : j = L := by omega
        have HJ := Lib.hid hje
        clear hje
        go_wp2
        go_ret
        exact ⟨ret_bool (HY.out (fun i hi => HI.out.al i hi (by rw [HJ.out, HL.out]; exact hi))).symm, HI.out.below⟩

end Go.Proofs.Ytaaohaihajccgaa
