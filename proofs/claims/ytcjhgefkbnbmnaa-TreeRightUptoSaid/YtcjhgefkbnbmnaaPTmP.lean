/- annFits, allAre, kidsFit. -/
import Derived.Test.YtcjhgefkbnbmnaaPTmO
import Derived.Test.YtcjhgefkbnbmnaaPKx
namespace Go.Proofs.Ytcjhgefkbnbmnaa
open Go.RowKit LM
set_option linter.unusedVariables false

/-- A list of nodes' Ops, all of one sort? -/
def allB (ops : List Int) (s : Int) : Bool := ops.all fun o => decide (tsortT o = s)
/-- The Ops of nodes that lie side by side. -/
def OpsIn (w : World) (b o : Nat) (ops : List Int) : Prop := ∀ i (h : i < ops.length), w.cell? ⟨b, o + i * 10, none⟩ = some (.int .u8 (ops[i]))
theorem OpsIn.below {w w' : World} {b o : Nat} {ops : List Int} (h : OpsIn w b o ops) (hb : Below w.heap.size w w') : OpsIn w' b o ops := fun i hi =>
  (hb.cell (p := ⟨b, o + i * 10, none⟩) (World.block_lt_of_cell? w _ (h i hi))).trans (h i hi)
theorem OpsIn.drop1 {w : World} {b o : Nat} {x : Int} {ops : List Int} (h : OpsIn w b o (x :: ops)) : OpsIn w b (o + 10) ops := fun i hi => by
  have := h (i + 1) (by simp; omega)
  rw [show o + (i + 1) * 10 = o + 10 + i * 10 by omega] at this
  simpa using this
theorem OpsIn.take {w : World} {b o : Nat} {ops : List Int} (h : OpsIn w b o ops) (n : Nat) : OpsIn w b o (ops.take n) := fun i hi => by
  have := h i (by simp at hi; omega)
  rw [List.getElem_take]; exact this
theorem TFAt.ops {w : World} : ∀ {f : TF} {b o : Nat}, TFAt w f b o → OpsIn w b o (f.toList.map fun t => t.1.op)
  | .nil, _, _, _, i, hi => by simp [TF.toList] at hi
  | .cons h k r, b, o, ⟨qa, ca, q, cap, hh, ha, hk, hr⟩, 0, _ => by simpa [TF.toList] using hh.c0
  | .cons h k r, b, o, ⟨qa, ca, q, cap, hh, ha, hk, hr⟩, i + 1, hi => by
    have := TFAt.ops hr i (by simp [TF.toList] at hi ⊢; omega)
    rw [show o + (i + 1) * 10 = o + 10 + i * 10 by omega]
    simpa [TF.toList] using this

set_option maxRecDepth 100000 in
set_option maxHeartbeats 1000000 in
theorem allAre_any (ops : List Int) (b o cap : Nat) (s : Int) (q : Option Addr) (w : World) (hl : ops.length ≤ 1099511627776) (hc : ops.length ≤ cap) (hq : 0 < ops.length → q = some ⟨b, o, none⟩) (h : OpsIn w b o ops) :
    Calls Try.prog 121 #[.slice q ops.length cap, .int .u8 s] w fun e w' => e = .returned (.bool (allB ops s)) ∧ Below w.heap.size w w' := by
  have HS := Lib.hid tsort_any
  have HNO : Hid (∀ j (hj : j < ops.length), tsortT (ops[j]) ≠ s → allB ops s = false) := Lib.hid fun j hj hne => by
    unfold allB
    rw [Bool.eq_false_iff]
    intro hc
    have := List.all_eq_true.1 hc _ (List.getElem_mem hj)
    exact hne (by simpa using this)
  have HYES : Hid ((∀ j (hj : j < ops.length), tsortT (ops[j]) = s) → allB ops s = true) := Lib.hid fun ha => by
    unfold allB
    rw [List.all_eq_true]
    intro x hx
    obtain ⟨j, hj, rfl⟩ := List.getElem_of_mem hx
    simpa using ha j hj
  have HO := Lib.hid h
  generalize allB ops s = r at *
  obtain ⟨L, hLd⟩ : ∃ L, ops.length = L := ⟨_, rfl⟩
  rw [hLd] at hl hc hq ⊢
  have HQ := Lib.hid hq
  have HLD := Lib.hid hLd
  clear h hq hLd
  go_enter Try.func121, Try.ntmps121
  go_wp2
  go_loopw [8] (fun i wr => ∃ j : Nat, i = .int .i64 j ∧ j ≤ L ∧ (∀ i (hi : i < ops.length), i < j → tsortT (ops[i]) = s) ∧ Below w.heap.size w wr) (fun i _ => L - (intOf i).toNat)
  case atStart => exact ⟨0, rfl, Nat.zero_le _, fun i _ hi => by omega, Below.refl _ _⟩
  case round =>
    obtain ⟨j, rfl, hjL, hall, hb⟩ := hrel
    have HB := Lib.hid hb
    have HALL := Lib.hid hall
    clear hall
    by_cases hj : j < L
    · have hj2 : j < ops.length := by rw [HLD.out]; exact hj
      have hc0 := (HO.out.below hb) j hj2
      have hq := HQ.out (by omega)
      subst hq
      have HN := Lib.hid (HNO.out j hj2)
      have HNX : Hid (tsortT (ops[j]) = s → ∀ i (hi : i < ops.length), i < j + 1 → tsortT (ops[i]) = s) := Lib.hid fun e i hi hij => by
        by_cases e2 : i = j
        · subst e2; exact e
        · exact HALL.out i hi (by omega)
      generalize ops[j] = x at *
      have HT := Lib.hid (HS.out x)
      clear hb
      by_cases hx : tsortT x = s
      · have hx' : (tsortT x != s) = false := by simp [hx]
        have HX := Lib.hid (HNX.out hx)
        clear hx HNX HN HALL
        go_wp2_with fail
        refine (HT.out _).mono ?_
        rintro e w2 ⟨rfl, hb2⟩
        have HB2 := Lib.hid (below_go2 HB.out hb2)
        clear hb2 hc0
        go_wp2
        go_roundw
        case rel => exact ⟨j + 1, by go_num, by omega, HX.out, HB2.out⟩
        case measure => simp [intOf]; omega
      · have hx' : (tsortT x != s) = true := by simp [hx]
        have HX := Lib.hid (HN.out hx)
        clear hx HNX HN HALL
        go_wp2_with fail
        refine (HT.out _).mono ?_
        rintro e w2 ⟨rfl, hb2⟩
        have HB2 := Lib.hid (below_go2 HB.out hb2)
        clear hb2 hc0
        go_wp2
        go_ret
        exact ⟨ret_bool HX.out.symm, HB2.out⟩
    · have HX := Lib.hid (HYES.out fun i hi => HALL.out i hi (by rw [HLD.out] at hi; omega))
      clear hb HALL
      go_wp2
      go_ret
      exact ⟨ret_bool HX.out.symm, HB.out⟩

/-- Is a type closed (and right)? -/
def closB (h : Hd) (k : Fo) : Bool := (rightB h k 1 || rightB h k 2) && !hasB 7 10 (flatL [(h, k)])
/-- Does a node's annotation fit? -/
def annB (h : TH) (n : Int) : Bool := if h.has then decide (n ≠ 0) && (rightB h.ah h.ak 1 && closB h.ah h.ak) else decide (n ≠ 2) && zeroB h.ah h.ak

set_option maxRecDepth 100000 in
set_option maxHeartbeats 1000000 in
theorem annFits_any (b o : Nat) (h : TH) (qa : Option Addr) (ca : Nat) (q : Option Addr) (len cap : Nat) (n : Int) (w : World) (hh : h.ok) (hth : THAt w b o h qa ca q len cap) (ha : SlF w qa ca h.ak) (hsz : 1 + h.ak.size ≤ 1099511627776) :
    Calls Try.prog 101 #[.pointer (some ⟨b, o, none⟩), .int .u8 n] w fun e w' => e = .returned (.bool (annB h n)) ∧ Below w.heap.size w w' := by
  have HR := Lib.hid fun w' (hb : Below w.heap.size w w') => Right_any h.ah h.ak qa ca w' hh.ah (ha.below hb) hh.ak hsz
  have HC := Lib.hid fun w' (hb : Below w.heap.size w w') => Closed_any h.ah h.ak qa ca w' hh.ah (ha.below hb) hh.ak hsz
  have HZ := Lib.hid (isZero_any b (o + 5) h.ah h.ak qa ca w ⟨hth.c5, hth.c6, hth.c7, hth.c8⟩)
  have HA : Hid (annB h n = if h.has then decide (n ≠ 0) && (rightB h.ah h.ak 1 && closB h.ah h.ak) else decide (n ≠ 2) && zeroB h.ah h.ak) := Lib.hid rfl
  have hcl : ((rightB h.ah h.ak 1 || rightB h.ah h.ak 2) && !hasB 7 10 (flatL [(h.ah, h.ak)])) = closB h.ah h.ak := rfl
  rw [hcl] at HC
  clear hcl
  have c4 := hth.c4
  have c5 := hth.c5
  have c6 := hth.c6
  have c7 := hth.c7
  have c8 := hth.c8
  have HTH := Lib.hid hth
  generalize annB h n = r at *
  generalize rightB h.ah h.ak 1 = r1 at *
  generalize closB h.ah h.ak = r2 at *
  generalize zeroB h.ah h.ak = r3 at *
  clear hth ha
  cases hhs : h.has
  · rw [hhs] at c4 HA
    clear hhs
    by_cases h2 : n = 2
    · have e2 : (n != 2) = false := by simp [h2]
      have HN : Hid (r = false) := Lib.hid (by rw [HA.out]; simp [h2])
      clear h2
      go_enter Try.func101, Try.ntmps101
      go_wp2
      go_ret
      exact ⟨ret_bool HN.out.symm, Below.refl _ _⟩
    · have e2 : (n != 2) = true := by simp [h2]
      have HN : Hid (r = r3) := Lib.hid (by rw [HA.out]; simp [h2])
      clear h2
      go_enter Try.func101, Try.ntmps101
      go_wp2_with fail
      refine HZ.out.mono ?_
      rintro e w2 ⟨rfl, rfl⟩
      go_wp2
      go_ret
      exact ⟨ret_bool HN.out.symm, Below.refl _ _⟩
  · rw [hhs] at c4 HA
    clear hhs
    by_cases h2 : n = 0
    · have e2 : (n != 0) = false := by simp [h2]
      have HN : Hid (r = false) := Lib.hid (by rw [HA.out]; simp [h2])
      clear h2
      go_enter Try.func101, Try.ntmps101
      go_wp2
      go_ret
      exact ⟨ret_bool HN.out.symm, Below.refl _ _⟩
    · have e2 : (n != 0) = true := by simp [h2]
      have HN : Hid (r = (r1 && r2)) := Lib.hid (by rw [HA.out]; simp [h2])
      clear h2
      cases r1
      · go_enter Try.func101, Try.ntmps101
        go_wp2_with fail
        refine (HR.out _ (Below.refl _ _)).mono ?_
        rintro e w2 ⟨rfl, hb2⟩
        have HB2 := Lib.hid hb2
        clear hb2
        go_wp2
        go_ret
        exact ⟨ret_bool (by rw [HN.out]; rfl), HB2.out⟩
      · go_enter Try.func101, Try.ntmps101
        go_wp2_with fail
        refine (HR.out _ (Below.refl _ _)).mono ?_
        rintro e w2 ⟨rfl, hb2⟩
        have HB2 := Lib.hid hb2
        have ht2 := HTH.out.same (hb2.block _ HTH.out.lt)
        have d5 := ht2.c5
        have d6 := ht2.c6
        have d7 := ht2.c7
        have d8 := ht2.c8
        clear hb2 ht2 c4 c5 c6 c7 c8
        go_wp2_with fail
        refine (HC.out _ HB2.out).mono ?_
        rintro e w3 ⟨rfl, hb3⟩
        have HB3 := Lib.hid (below_go2 HB2.out hb3)
        clear hb3
        go_wp2
        go_ret
        exact ⟨ret_bool (by rw [HN.out]; rfl), HB3.out⟩

/-- Do a node's Kids fit, by their Ops? -/
def armsB (arms : List Int) : Bool := if 0 < arms.length ∧ tsortT (arms.getD (arms.length - 1) 0) = 3 then allB (arms.take (arms.length - 1)) 2 else allB arms 2
def kidsB (op count : Int) (ops : List Int) : Bool := if op ≠ 48 then decide ((ops.length : Int) = count) && allB ops 1 else
  match ops with
  | [] => false
  | x :: arms => allB [x] 1 && armsB arms
set_option maxRecDepth 100000 in
set_option maxHeartbeats 1500000 in
theorem kidsFit_any (b o : Nat) (h : TH) (k : TF) (qa : Option Addr) (ca : Nat) (q : Option Addr) (cap : Nat) (count : Int) (w : World) (hth : THAt w b o h qa ca q k.len cap) (hs : TSl w q cap k) (hl : k.len ≤ 1073741824) :
    Calls Try.prog 102 #[.pointer (some ⟨b, o, none⟩), .int .i64 count] w fun e w' => e = .returned (.bool (kidsB h.op count (k.toList.map fun t => t.1.op))) ∧ Below w.heap.size w w' := by
  obtain ⟨ops, hops⟩ : ∃ ops, ops = k.toList.map fun t => t.1.op := ⟨_, rfl⟩
  have hlen : k.len = ops.length := by rw [hops, List.length_map, TF.length_toList]
  rw [← hops]
  have hq : ∃ kb ko, (0 < ops.length → q = some ⟨kb, ko, none⟩) ∧ OpsIn w kb ko ops := by
    by_cases h0 : 0 < k.len
    · obtain ⟨kb, ko, e, hfo⟩ := hs.at_ h0
      exact ⟨kb, ko, fun _ => e, by rw [hops]; exact hfo.ops⟩
    · exact ⟨0, 0, fun h => by omega, fun i hi => by omega⟩
  obtain ⟨kb, ko, hq, hin⟩ := hq
  have hlc := hs.lc
  have hcm := hs.cm
  rw [hlen] at hlc hl hth
  have c0 := hth.c0
  have c9 := hth.c9
  have HLT := Lib.hid hth.lt
  have HA := Lib.hid allAre_any
  have HQ := Lib.hid hq
  have HIN := Lib.hid hin
  unfold maxLen at hcm
  clear hops hlen hs hin hq
  by_cases h48 : h.op = 48
  case neg =>
    have e1 : (h.op != 48) = true := by simp [h48]
    have HN : Hid (kidsB h.op count ops = (decide ((ops.length : Int) = count) && allB ops 1)) := Lib.hid (by unfold kidsB; rw [if_pos h48])
    by_cases hcn : (ops.length : Int) = count
    case neg =>
      have e2 : ((ops.length : Int) == count) = false := by rw [beq_eq_false_iff_ne]; exact hcn
      have HN2 : Hid (kidsB h.op count ops = false) := Lib.hid (by rw [HN.out]; simp [hcn])
      clear h48 hcn
      generalize kidsB h.op count ops = r at *
      generalize ops.length = L at *
      go_enter Try.func102, Try.ntmps102
      go_wp2
      go_ret
      exact ⟨ret_bool HN2.out.symm, Below.refl _ _⟩
    have e2 : ((ops.length : Int) == count) = true := by simpa using hcn
    have HC := Lib.hid (HA.out ops kb ko cap 1 q w (by omega) hlc HQ.out HIN.out)
    have HN2 : Hid (kidsB h.op count ops = allB ops 1) := Lib.hid (by rw [HN.out]; simp [hcn])
    clear h48 hcn
    generalize kidsB h.op count ops = r at *
    generalize allB ops 1 = r2 at *
    generalize ops.length = L at *
    go_enter Try.func102, Try.ntmps102
    go_wp2_with fail
    refine HC.out.mono ?_
    rintro e w2 ⟨rfl, hb⟩
    have HB := Lib.hid hb
    clear hb
    go_wp2
    go_ret
    exact ⟨ret_bool HN2.out.symm, HB.out⟩
  cases ops with
  | nil =>
    have e1 : (h.op != 48) = false := by simp [h48]
    have HN : Hid (kidsB h.op count [] = false) := Lib.hid (by unfold kidsB; rw [if_neg (by simp [h48])])
    generalize kidsB h.op count [] = r at *
    simp only [List.length_nil] at *
    clear h48
    go_enter Try.func102, Try.ntmps102
    go_wp2
    go_ret
    exact ⟨ret_bool HN.out.symm, Below.refl _ _⟩
  | cons x arms =>
    have e1 : (h.op != 48) = false := by simp [h48]
    have HN : Hid (kidsB h.op count (x :: arms) = (allB [x] 1 && armsB arms)) := Lib.hid (by unfold kidsB; rw [if_neg (by simp [h48])])
    generalize kidsB h.op count (x :: arms) = r at *
    have hq0 := HQ.out (by simp)
    subst hq0
    simp only [List.length_cons] at hlc hl c9 hth
    have HIN1 : Hid (OpsIn w kb ko [x]) := Lib.hid (by have := HIN.out.take 1; simpa using this)
    have HIN2 := Lib.hid HIN.out.drop1
    have e3 : (((arms.length + 1 : Nat) : Int) == 0) = false := by rw [beq_eq_false_iff_ne]; omega
    have HC1 := Lib.hid fun w' (hb : Below w.heap.size w w') => HA.out [x] kb ko cap 1 (some ⟨kb, ko, none⟩) w' (by simp) (by simp; omega) (fun _ => rfl) (HIN1.out.below hb)
    have HC2 := Lib.hid fun (n : Nat) (hn : n ≤ arms.length) w' (hb : Below w.heap.size w w') q' cap' (hq : 0 < n → q' = some ⟨kb, ko + 10, none⟩) (hc : n ≤ cap') => HA.out (arms.take n) kb (ko + 10) cap' 2 q' w' (by rw [List.length_take]; omega) (by rw [List.length_take]; omega) (fun h0 => hq (by rw [List.length_take] at h0; omega)) ((HIN2.out.take n).below hb)
    clear h48 HQ HIN HIN1 HA
    simp only [List.length_singleton] at HC1
    have hcm2 : cap ≤ 9223372036854775807 := by omega
    by_cases h0 : 0 < arms.length
    · have hy : w.cell? ⟨kb, ko + 10 + (arms.length - 1) * 10, none⟩ = some (.int .u8 (arms.getD (arms.length - 1) 0)) := by
        have := HIN2.out (arms.length - 1) (by omega)
        rw [this]
        simp [List.getD_eq_getElem?_getD, List.getElem?_eq_getElem (show arms.length - 1 < arms.length by omega)]
      have HY := Lib.hid fun w' (hb : Below w.heap.size w w') => (hb.cell (p := ⟨kb, ko + 10 + (arms.length - 1) * 10, none⟩) (World.block_lt_of_cell? w _ hy)).trans hy
      have HAR : Hid (armsB arms = if 0 < arms.length ∧ tsortT (arms.getD (arms.length - 1) 0) = 3 then allB (arms.take (arms.length - 1)) 2 else allB arms 2) := Lib.hid rfl
      have HTS := Lib.hid fun w => tsort_any (arms.getD (arms.length - 1) 0) w
      generalize arms.getD (arms.length - 1) 0 = y at *
      generalize armsB arms = ra at *
      obtain ⟨m, hm⟩ : ∃ m, arms.length = m + 1 := ⟨arms.length - 1, by omega⟩
      rw [hm, Nat.add_sub_cancel] at HAR hy HY
      have HC3 := Lib.hid (HC2.out m (by omega))
      have HC4 := Lib.hid (HC2.out (m + 1) (by omega))
      have hta : arms.take (m + 1) = arms := List.take_of_length_le (by omega)
      have htl : (arms.take m).length = m := by rw [List.length_take]; omega
      rw [hta, hm] at HC4
      rw [htl] at HC3
      rw [hm] at e3 hlc hl c9
      generalize allB arms 2 = r2 at *
      generalize allB (arms.take m) 2 = r3 at *
      generalize allB [x] 1 = r1 at *
      clear HC2 HIN2 hta htl h0 hm hth
      by_cases h3 : tsortT y = 3
      · have e4 : (tsortT y == 3) = true := by simpa using h3
        have HN2 : Hid (r = (r1 && r3)) := Lib.hid (by rw [HN.out, HAR.out, if_pos ⟨by omega, h3⟩])
        clear h3 HN HAR
        have hy2 := hy
        go_enter Try.func102, Try.ntmps102
        go_wp2_with fail
        refine (HTS.out _).mono ?_
        rintro e w2 ⟨rfl, hb2⟩
        have HB2 := Lib.hid hb2
        obtain ⟨bc, _⟩ := bcell hb2
        have d0 := (hb2.cell (p := ⟨b, o, none⟩) HLT.out).trans c0
        have d9 := (hb2.cell (p := ⟨b, o + 9, none⟩) HLT.out).trans c9
        clear hb2 bc
        cases r1
        · go_wp2_with fail
          refine (HC1.out _ HB2.out).mono ?_
          rintro e w3 ⟨rfl, hb3⟩
          have HB3 := Lib.hid (below_go2 HB2.out hb3)
          clear hb3
          go_wp2
          go_ret
          exact ⟨ret_bool (by rw [HN2.out]; rfl), HB3.out⟩
        · go_wp2_with fail
          refine (HC1.out _ HB2.out).mono ?_
          rintro e w3 ⟨rfl, hb3⟩
          have HB3 := Lib.hid (below_go2 HB2.out hb3)
          clear hb3
          go_wp2_with fail
          refine (HC3.out _ HB3.out _ _ (fun _ => rfl) (by omega)).mono ?_
          rintro e w4 ⟨rfl, hb4⟩
          have HB4 := Lib.hid (below_go2 HB3.out hb4)
          clear hb4
          go_wp2
          go_ret
          exact ⟨ret_bool (by rw [HN2.out]; rfl), HB4.out⟩
      · have e4 : (tsortT y == 3) = false := by rw [beq_eq_false_iff_ne]; exact h3
        have HN2 : Hid (r = (r1 && r2)) := Lib.hid (by rw [HN.out, HAR.out, if_neg (fun h => h3 h.2)])
        clear h3 HN HAR
        have hy2 := hy
        go_enter Try.func102, Try.ntmps102
        go_wp2_with fail
        refine (HTS.out _).mono ?_
        rintro e w2 ⟨rfl, hb2⟩
        have HB2 := Lib.hid hb2
        obtain ⟨bc, _⟩ := bcell hb2
        have d0 := (hb2.cell (p := ⟨b, o, none⟩) HLT.out).trans c0
        have d9 := (hb2.cell (p := ⟨b, o + 9, none⟩) HLT.out).trans c9
        clear hb2 bc
        cases r1
        · go_wp2_with fail
          refine (HC1.out _ HB2.out).mono ?_
          rintro e w3 ⟨rfl, hb3⟩
          have HB3 := Lib.hid (below_go2 HB2.out hb3)
          clear hb3
          go_wp2
          go_ret
          exact ⟨ret_bool (by rw [HN2.out]; rfl), HB3.out⟩
        · go_wp2_with fail
          refine (HC1.out _ HB2.out).mono ?_
          rintro e w3 ⟨rfl, hb3⟩
          have HB3 := Lib.hid (below_go2 HB2.out hb3)
          clear hb3
          go_wp2_with fail
          refine (HC4.out _ HB3.out _ _ (fun _ => rfl) (by omega)).mono ?_
          rintro e w4 ⟨rfl, hb4⟩
          have HB4 := Lib.hid (below_go2 HB3.out hb4)
          clear hb4
          go_wp2
          go_ret
          exact ⟨ret_bool (by rw [HN2.out]; rfl), HB4.out⟩
    · have h0' : arms = [] := List.length_eq_zero_iff.1 (by omega)
      subst h0'
      have HAR : Hid (armsB [] = true) := Lib.hid rfl
      have HN2 : Hid (r = allB [x] 1) := Lib.hid (by rw [HN.out, HAR.out, Bool.and_true])
      have HC3 := Lib.hid (HC2.out 0 (Nat.le_refl _))
      have hz : allB (([] : List Int).take 0) 2 = true := rfl
      rw [hz] at HC3
      simp only [List.length_nil, List.take_nil] at *
      clear HC2 HIN2 HN HAR hz h0
      generalize allB [x] 1 = r1 at *
      by_cases hc1 : cap = 1
      · subst hc1
        cases r1
        · go_enter Try.func102, Try.ntmps102
          go_wp2_with fail
          refine (HC1.out _ (Below.refl _ _)).mono ?_
          rintro e w3 ⟨rfl, hb3⟩
          have HB3 := Lib.hid hb3
          clear hb3
          go_wp2
          go_ret
          exact ⟨ret_bool (by rw [HN2.out]), HB3.out⟩
        · go_enter Try.func102, Try.ntmps102
          go_wp2_with fail
          refine (HC1.out _ (Below.refl _ _)).mono ?_
          rintro e w3 ⟨rfl, hb3⟩
          have HB3 := Lib.hid hb3
          clear hb3
          go_wp2_with fail
          refine (HC3.out _ HB3.out _ _ (fun h => absurd h (Nat.lt_irrefl _)) (Nat.zero_le _)).mono ?_
          rintro e w4 ⟨rfl, hb4⟩
          have HB4 := Lib.hid (below_go2 HB3.out hb4)
          clear hb4
          go_wp2
          go_ret
          exact ⟨ret_bool (by rw [HN2.out]), HB4.out⟩
      · cases r1
        · go_enter Try.func102, Try.ntmps102
          go_wp2_with fail
          refine (HC1.out _ (Below.refl _ _)).mono ?_
          rintro e w3 ⟨rfl, hb3⟩
          have HB3 := Lib.hid hb3
          clear hb3
          go_wp2
          go_ret
          exact ⟨ret_bool (by rw [HN2.out]), HB3.out⟩
        · go_enter Try.func102, Try.ntmps102
          go_wp2_with fail
          refine (HC1.out _ (Below.refl _ _)).mono ?_
          rintro e w3 ⟨rfl, hb3⟩
          have HB3 := Lib.hid hb3
          clear hb3
          go_wp2_with fail
          refine (HC3.out _ HB3.out _ _ (fun h => absurd h (Nat.lt_irrefl _)) (Nat.zero_le _)).mono ?_
          rintro e w4 ⟨rfl, hb4⟩
          have HB4 := Lib.hid (below_go2 HB3.out hb4)
          clear hb4
          go_wp2
          go_ret
          exact ⟨ret_bool (by rw [HN2.out]), HB4.out⟩
end Go.Proofs.Ytcjhgefkbnbmnaa
