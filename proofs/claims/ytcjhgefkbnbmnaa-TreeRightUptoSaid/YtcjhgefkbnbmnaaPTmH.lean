/- The document's Alike of terms. -/
import Derived.Test.YtcjhgefkbnbmnaaPTmG
namespace Go.Proofs.Ytcjhgefkbnbmnaa
open Go.RowKit LM
set_option linter.unusedVariables false

open Classical in
noncomputable def talk (a b : TH × TF) : Bool := decide (a = b)
theorem talk_self (a : TH × TF) : talk a a = true := by simp [talk]
theorem talk_no {a b : TH × TF} (h : a ≠ b) : talk a b = false := by simp [talk, h]
theorem TF.ext_get : ∀ {k k' : TF}, k.len = k'.len → (∀ i, i < k.len → k.get i = k'.get i) → k = k'
  | .nil, .nil, _, _ => rfl
  | .nil, .cons _ _ _, h, _ => by simp [TF.len] at h
  | .cons _ _ _, .nil, h, _ => by simp [TF.len] at h
  | .cons h k r, .cons h' k' r', hl, hg => by
    have h0 := hg 0 (by simp [TF.len])
    rw [TF.get_zero, TF.get_zero] at h0
    obtain ⟨rfl, rfl⟩ := Prod.mk.inj h0
    have := TF.ext_get (k := r) (k' := r') (by simpa [TF.len] using hl) (fun i hi => by
      have := hg (i + 1) (by simp [TF.len]; exact hi)
      rwa [TF.get_succ, TF.get_succ] at this)
    rw [this]

/-- Two terms' boxes, while Alike goes along the Kids. -/
structure TlkI (w : World) (c c' : Array Value) (k k' : TF) (L j : Nat) (wr : World) : Prop where
  le : j ≤ L
  al : ∀ i, i < j → k.get i = k'.get i
  b0 : wr.heap[w.heap.size]? = some (.cells c 43 (0, 0))
  b1 : wr.heap[w.heap.size + 1]? = some (.cells c' 43 (0, 0))
  below : Below w.heap.size w wr
theorem TlkI.start (w : World) (c c' : Array Value) (k k' : TF) (L : Nat) : TlkI w c c' k k' L 0 ((w.alloc (.cells c 43)).alloc (.cells c' 43)) := by
  have e1 := World.alloc_heap_new (w.alloc (.cells c 43)) (.cells c' 43)
  rw [World.size_alloc] at e1
  exact ⟨Nat.zero_le _, fun i h => by omega, ((below_box _ _).block _ (by simp)).trans (World.alloc_heap_new w _), e1, (below_box _ _).alloc (by simp) _⟩
theorem TlkI.go {w : World} {c c' : Array Value} {k k' : TF} {L j : Nat} {wr w2 : World} (h : TlkI w c c' k k' L j wr) (hb : Below wr.heap.size wr w2) (hj : j < L) (he : k.get j = k'.get j) : TlkI w c c' k k' L (j + 1) w2 :=
  ⟨hj, fun i hi => by
    by_cases hij : i = j
    · rw [hij]; exact he
    · exact h.al i (by omega), (hb.block _ (Array.getElem?_eq_some_iff.1 h.b0).1).trans h.b0, (hb.block _ (Array.getElem?_eq_some_iff.1 h.b1).1).trans h.b1, h.below.trans (hb.mono h.below.size)⟩
theorem TlkI.same {w : World} {c c' : Array Value} {k k' : TF} {L j : Nat} {wr w2 : World} (h : TlkI w c c' k k' L j wr) (hb : Below wr.heap.size wr w2) : TlkI w c c' k k' L j w2 :=
  ⟨h.le, h.al, (hb.block _ (Array.getElem?_eq_some_iff.1 h.b0).1).trans h.b0, (hb.block _ (Array.getElem?_eq_some_iff.1 h.b1).1).trans h.b1, h.below.trans (hb.mono h.below.size)⟩

set_option maxRecDepth 100000 in
set_option maxHeartbeats 4000000 in
theorem TAlike_any : ∀ (n : Nat) (h h' : TH) (k k' : TF) (qa qa' : Option Addr) (ca ca' : Nat) (q q' : Option Addr) (cap cap' : Nat) (w : World), k.size < n → h.ok → h'.ok → k.ok → k'.ok → SlF w qa ca h.ak → SlF w qa' ca' h'.ak → TSl w q cap k → TSl w q' cap' k' →
    Calls Try.prog 40 #[.agg (tmV h qa ca q k.len cap), .agg (tmV h' qa' ca' q' k'.len cap')] w fun e w' => e = .returned (.bool (talk (h, k) (h', k'))) ∧ Below w.heap.size w w' := by
  intro n
  induction n with
  | zero => intro h h' k k' qa qa' ca ca' q q' cap cap' w hn; omega
  | succ n ih =>
    intro h h' k k' qa qa' ca ca' q q' cap cap' w hn hh hh' hk hk' ha ha' hs hs'
    obtain ⟨op, name, arg, nn, has, ah, ak⟩ := h
    obtain ⟨op', name', arg', nn', has', ah', ak'⟩ := h'
    have HA := Lib.hid fun w1 (hb : Below w.heap.size w w1) => Alike_any (ak.size + 1) ah ah' ak ak' qa qa' ca ca' w1 (by omega) hh.ah hh'.ah hh.ak hh'.ak (ha.below hb) (ha'.below hb)
    unfold tmV
    simp only
    by_cases hop : op = op'
    case neg =>
      have hop' : (op != op') = true := by simpa using hop
      have HN : Hid (talk (⟨op, name, arg, nn, has, ah, ak⟩, k) (⟨op', name', arg', nn', has', ah', ak'⟩, k') = false) := Lib.hid (talk_no (fun e => hop (congrArg (fun x => x.1.op) e)))
      clear hop
      go_enter Try.func40, Try.ntmps40
      go_wp2
      go_ret
      exact ⟨ret_bool HN.out.symm, ((Below.refl _ _).alloc (Nat.le_refl _) _).alloc (by simp) _⟩
    subst hop
    by_cases hnm : name = name'
    case neg =>
      have HN : Hid (talk (⟨op, name, arg, nn, has, ah, ak⟩, k) (⟨op, name', arg', nn', has', ah', ak'⟩, k') = false) := Lib.hid (talk_no (fun e => hnm (congrArg (fun x => x.1.name) e)))
      have hnm' : (name.toList == name'.toList) = false := by rw [beq_eq_false_iff_ne]; exact fun e => hnm (toList_inj e)
      clear hnm
      go_enter Try.func40, Try.ntmps40
      go_wp2
      go_ret
      exact ⟨ret_bool HN.out.symm, ((Below.refl _ _).alloc (Nat.le_refl _) _).alloc (by simp) _⟩
    subst hnm
    by_cases hag : arg = arg'
    case neg =>
      have HN : Hid (talk (⟨op, name, arg, nn, has, ah, ak⟩, k) (⟨op, name, arg', nn', has', ah', ak'⟩, k') = false) := Lib.hid (talk_no (fun e => hag (congrArg (fun x => x.1.arg) e)))
      have hag' : (arg.toList == arg'.toList) = false := by rw [beq_eq_false_iff_ne]; exact fun e => hag (toList_inj e)
      clear hag
      go_enter Try.func40, Try.ntmps40
      go_wp2
      go_ret
      exact ⟨ret_bool HN.out.symm, ((Below.refl _ _).alloc (Nat.le_refl _) _).alloc (by simp) _⟩
    subst hag
    by_cases hnn : nn = nn'
    case neg =>
      have HN : Hid (talk (⟨op, name, arg, nn, has, ah, ak⟩, k) (⟨op, name, arg, nn', has', ah', ak'⟩, k') = false) := Lib.hid (talk_no (fun e => hnn (congrArg (fun x => x.1.n) e)))
      have hnn' : (nn != nn') = true := by simpa using hnn
      clear hnn
      go_enter Try.func40, Try.ntmps40
      go_wp2
      go_ret
      exact ⟨ret_bool HN.out.symm, ((Below.refl _ _).alloc (Nat.le_refl _) _).alloc (by simp) _⟩
    subst hnn
    by_cases hhs : has = has'
    case neg =>
      have HN : Hid (talk (⟨op, name, arg, nn, has, ah, ak⟩, k) (⟨op, name, arg, nn, has', ah', ak'⟩, k') = false) := Lib.hid (talk_no (fun e => hhs (congrArg (fun x => x.1.has) e)))
      go_enter Try.func40, Try.ntmps40
      cases has <;> cases has' <;> first
        | exact absurd rfl hhs
        | (go_wp2
           go_ret
           exact ⟨ret_bool HN.out.symm, ((Below.refl _ _).alloc (Nat.le_refl _) _).alloc (by simp) _⟩)
    subst hhs
    by_cases hal : (ah, ak) = (ah', ak')
    case neg =>
      have HN : Hid (talk (⟨op, name, arg, nn, has, ah, ak⟩, k) (⟨op, name, arg, nn, has, ah', ak'⟩, k') = false) := Lib.hid (talk_no (fun e => hal (congrArg (fun x => (x.1.ah, x.1.ak)) e)))
      rw [alk_no hal] at HA
      clear hal
      go_enter Try.func40, Try.ntmps40
      cases has
      all_goals
        go_wp2_with fail
        refine (HA.out _ (((Below.refl _ _).alloc (Nat.le_refl _) _).alloc (by simp) _)).mono ?_
        rintro e w2 ⟨rfl, hb2⟩
        have HB2 := Lib.hid (below_go2 (((Below.refl _ _).alloc (Nat.le_refl _) _).alloc (by simp) _) hb2)
        clear hb2
        go_wp2
        go_ret
        exact ⟨ret_bool HN.out.symm, HB2.out⟩
    obtain ⟨rfl, rfl⟩ := Prod.mk.inj hal
    rw [alk_self] at HA
    clear hal
    by_cases hL : k.len = k'.len
    case neg =>
      have hL' : ((k.len : Int) != k'.len) = true := by simp; omega
      have HN : Hid (talk (⟨op, name, arg, nn, has, ah, ak⟩, k) (⟨op, name, arg, nn, has, ah, ak⟩, k') = false) := Lib.hid (talk_no (fun e => hL (by rw [(Prod.mk.inj e).2])))
      have HST := Lib.hid (TlkI.start w #[.int .u8 op, .string name, .string arg, .int .i64 nn, .bool has, .int .u8 ah.op, .string ah.name, .int .i64 ah.n, .slice qa ak.len ca, .slice q k.len cap] #[.int .u8 op, .string name, .string arg, .int .i64 nn, .bool has, .int .u8 ah.op, .string ah.name, .int .i64 ah.n, .slice qa' ak.len ca', .slice q' k'.len cap'] k k' 0)
      clear hL
      generalize k.len = L at *
      generalize k'.len = L' at *
      generalize ak.len = La at *
      go_enter Try.func40, Try.ntmps40
      cases has
      all_goals
        go_wp2_with fail
        refine (HA.out _ HST.out.below).mono ?_
        rintro e w2 ⟨rfl, hb2⟩
        have hI := HST.out.same hb2
        obtain ⟨x0, x1, x2, x3, x4, x5, x6, x7, x8, x9⟩ := row10 hI.b0
        obtain ⟨y0, y1, y2, y3, y4, y5, y6, y7, y8, y9⟩ := row10 hI.b1
        have HB2 := Lib.hid hI.below
        clear hb2 hI
        go_wp2
        go_ret
        exact ⟨ret_bool HN.out.symm, HB2.out⟩
    have HE : Hid ((∀ i, i < k.len → k.get i = k'.get i) → talk (⟨op, name, arg, nn, has, ah, ak⟩, k) (⟨op, name, arg, nn, has, ah, ak⟩, k') = true) := Lib.hid (fun h => by rw [TF.ext_get hL h]; exact talk_self _)
    have HF : Hid (∀ i, k.get i ≠ k'.get i → talk (⟨op, name, arg, nn, has, ah, ak⟩, k) (⟨op, name, arg, nn, has, ah, ak⟩, k') = false) := Lib.hid (fun i h => talk_no (fun e => h (by rw [(Prod.mk.inj e).2])))
    have HST := Lib.hid (TlkI.start w #[.int .u8 op, .string name, .string arg, .int .i64 nn, .bool has, .int .u8 ah.op, .string ah.name, .int .i64 ah.n, .slice qa ak.len ca, .slice q k.len cap] #[.int .u8 op, .string name, .string arg, .int .i64 nn, .bool has, .int .u8 ah.op, .string ah.name, .int .i64 ah.n, .slice qa' ak.len ca', .slice q' k.len cap'] k k' k.len)
    have HS := Lib.hid hs
    have HS' := Lib.hid hs'
    have HL := Lib.hid hL
    have HIH := Lib.hid ih
    have hcl := hs.lc
    have hcl' := hs'.lc
    have hcm := hs.cm
    have hcm' := hs'.cm
    unfold maxLen at hcm hcm'
    rw [← hL] at hcl' ⊢
    clear hs hs' hL ih ha ha' hh hh'
    generalize talk (⟨op, name, arg, nn, has, ah, ak⟩, k) (⟨op, name, arg, nn, has, ah, ak⟩, k') = r at *
    generalize hLd : k.len = L at *
    have HLD := Lib.hid hLd
    clear hLd
    generalize ak.len = La at *
    go_enter Try.func40, Try.ntmps40
    cases has
    all_goals
      go_wp2_with fail
      refine (HA.out _ HST.out.below).mono ?_
      rintro e w2 ⟨rfl, hb2⟩
      have hI0 := HST.out.same hb2
      obtain ⟨x0, x1, x2, x3, x4, x5, x6, x7, x8, x9⟩ := row10 hI0.b0
      obtain ⟨y0, y1, y2, y3, y4, y5, y6, y7, y8, y9⟩ := row10 hI0.b1
      have HI0 := Lib.hid hI0
      clear hb2 hI0
      go_wp2
      clear x0 x1 x2 x3 x4 x5 x6 x7 x8 x9 y0 y1 y2 y3 y4 y5 y6 y7 y8 y9
      go_loopw [5] (fun i wr => ∃ j : Nat, i = .int .i64 j ∧ TlkI w _ _ k k' L j wr) (fun i _ => L - (intOf i).toNat)
      case atStart => exact ⟨0, rfl, HI0.out⟩
      case round =>
        obtain ⟨j, rfl, hI⟩ := hrel
        obtain ⟨x0, x1, x2, x3, x4, x5, x6, x7, x8, x9⟩ := row10 hI.b0
        obtain ⟨y0, y1, y2, y3, y4, y5, y6, y7, y8, y9⟩ := row10 hI.b1
        have hjL := hI.le
        have HI := Lib.hid hI
        clear hI
        clear x0 x1 x2 x3 x4 x5 x6 x7 x8 y0 y1 y2 y3 y4 y5 y6 y7 y8
        by_cases hj : j < L
        · have hjk : j < k.len := by rw [HLD.out]; exact hj
          have hjk' : j < k'.len := by rw [← HL.out]; exact hj
          obtain ⟨b, o, rfl, hfo⟩ := ((HS.out.below HI.out.below).at_ (Nat.lt_of_le_of_lt (Nat.zero_le _) hjk))
          obtain ⟨b', o', rfl, hfo'⟩ := ((HS'.out.below HI.out.below).at_ (Nat.lt_of_le_of_lt (Nat.zero_le _) hjk'))
          obtain ⟨qa1, ca1, q1, cap1, hd1, ha1, hs1⟩ := hfo.get j hjk
          obtain ⟨qa2, ca2, q2, cap2, hd2, ha2, hs2⟩ := hfo'.get j hjk'
          have c0 := hd1.c0
          have c1 := hd1.c1
          have c2 := hd1.c2
          have c3 := hd1.c3
          have c4 := hd1.c4
          have c5 := hd1.c5
          have c6 := hd1.c6
          have c7 := hd1.c7
          have c8 := hd1.c8
          have c9 := hd1.c9
          have d0 := hd2.c0
          have d1 := hd2.c1
          have d2 := hd2.c2
          have d3 := hd2.c3
          have d4 := hd2.c4
          have d5 := hd2.c5
          have d6 := hd2.c6
          have d7 := hd2.c7
          have d8 := hd2.c8
          have d9 := hd2.c9
          have ho1 := TF.ok_get hk j hjk
          have ho2 := TF.ok_get hk' j hjk'
          have hsz := TF.get_size hjk
          have HC := Lib.hid fun w => HIH.out (k.get j).1 (k'.get j).1 (k.get j).2 (k'.get j).2 qa1 qa2 ca1 ca2 q1 q2 cap1 cap2 w (by omega) ho1.1 ho2.1 ho1.2 ho2.2
          unfold tmV at HC
          have HS1 := Lib.hid hs1
          have HS2 := Lib.hid hs2
          have HA1 := Lib.hid ha1
          have HA2 := Lib.hid ha2
          have hj0 : (j : Int) < L := by omega
          have hj1 : (0 : Int) ≤ j := by omega
          have hbd : ∀ w0 : World, Below w0.heap.size w0 w0.drew := fun w0 => (Below.refl _ _).drew
          have HBD := Lib.hid (hbd wr)
          clear hd1 hd2 hfo hfo' hs1 hs2 ha1 ha2 ho1 ho2 hsz hbd
          by_cases heq : k.get j = k'.get j
          · have hat : talk ((k.get j).1, (k.get j).2) ((k'.get j).1, (k'.get j).2) = true := by rw [heq]; exact talk_self _
            have HEQ := Lib.hid heq
            rw [hat] at HC
            clear heq hat
            generalize (k.get j).1 = t1 at *
            generalize (k'.get j).1 = t2 at *
            go_wp2
            go_still_tail 10, (by kernel_rfl)
            change wpList _ _ _ _ _ wr.drew
            go_wp2_with (go_at_call 40; refine (HC.out _ (HA1.out.below HBD.out) (HA2.out.below HBD.out) (HS1.out.below HBD.out) (HS2.out.below HBD.out)).mono ?_; rintro e w2 ⟨rfl, hb2⟩; have HB2 := Lib.hid hb2; clear hb2)
            go_roundw
            case rel => exact ⟨j + 1, by go_num, HI.out.go (HBD.out.trans HB2.out) hj HEQ.out⟩
            case measure => simp [intOf]; omega
          · have hat : talk ((k.get j).1, (k.get j).2) ((k'.get j).1, (k'.get j).2) = false := talk_no heq
            have hr := HF.out j heq
            have HR := Lib.hid hr
            rw [hat] at HC
            clear heq hat hr
            generalize (k.get j).1 = t1 at *
            generalize (k'.get j).1 = t2 at *
            go_wp2
            go_still_tail 10, (by kernel_rfl)
            change wpList _ _ _ _ _ wr.drew
            go_wp2_with (go_at_call 40; refine (HC.out _ (HA1.out.below HBD.out) (HA2.out.below HBD.out) (HS1.out.below HBD.out) (HS2.out.below HBD.out)).mono ?_; rintro e w2 ⟨rfl, hb2⟩; have HB2 := Lib.hid hb2; clear hb2)
            go_ret
            exact ⟨ret_bool HR.out.symm, HI.out.below.drew.trans (HB2.out.mono HI.out.below.size)⟩
        · have hje : j = L := by omega
          have HJ := Lib.hid hje
          clear hje
          go_wp2
          go_ret
          exact ⟨ret_bool (HE.out (fun i hi => HI.out.al i (by rw [HJ.out]; exact hi))).symm, HI.out.below⟩
end Go.Proofs.Ytcjhgefkbnbmnaa
