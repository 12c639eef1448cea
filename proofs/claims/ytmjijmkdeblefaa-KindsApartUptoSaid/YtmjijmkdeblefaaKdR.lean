/- Alike. -/
import Derived.Test.YtmjijmkdeblefaaKdQ
import Derived.StillTailTactics
namespace Go.Proofs.Ytmjijmkdeblefaa
open Go.RowKit LM
set_option linter.unusedVariables false

open Classical in
/-- Are two trees alike? -/
noncomputable def alk (a b : Hd × Fo) : Bool := decide (a = b)
theorem alk_self (a : Hd × Fo) : alk a a = true := by simp [alk]
theorem alk_no {a b : Hd × Fo} (h : a ≠ b) : alk a b = false := by simp [alk, h]

theorem Fo.ext_get : ∀ {k k' : Fo}, k.len = k'.len → (∀ i, i < k.len → k.get i = k'.get i) → k = k'
  | .nil, .nil, _, _ => rfl
  | .nil, .cons _ _ _, h, _ => by simp [Fo.len] at h
  | .cons _ _ _, .nil, h, _ => by simp [Fo.len] at h
  | .cons h k r, .cons h' k' r', hl, hg => by
    have h0 := hg 0 (by simp [Fo.len])
    rw [Fo.get_zero, Fo.get_zero] at h0
    obtain ⟨rfl, rfl⟩ := Prod.mk.inj h0
    have := Fo.ext_get (k := r) (k' := r') (by simpa [Fo.len] using hl) (fun i hi => by
      have := hg (i + 1) (by simp [Fo.len]; exact hi)
      rwa [Fo.get_succ, Fo.get_succ] at this)
    rw [this]
theorem Fo.get_size : ∀ {k : Fo} {i : Nat}, i < k.len → (k.get i).2.size < k.size
  | .nil, _, h => by simp [Fo.len] at h
  | .cons h k r, 0, _ => by rw [Fo.get_zero]; simp [Fo.size]; omega
  | .cons h k r, i + 1, hi => by
    rw [Fo.get_succ]
    have := Fo.get_size (k := r) (i := i) (by simpa [Fo.len] using hi)
    simp [Fo.size]; omega

theorem toList_inj {a b : ByteArray} (e : a.toList = b.toList) : a = b := by
  have := congrArg List.toArray e
  rw [ByteArray.toList_eq, ByteArray.toList_eq] at this
  cases a; cases b; simpa using this

/-- What Alike keeps while it goes along the Kids. -/
structure AlkI (w : World) (op : Int) (name : ByteArray) (n : Int) (k k' : Fo) (q q' : Option Addr) (L cap cap' j : Nat) (wr : World) : Prop where
  le : j ≤ L
  al : ∀ i, i < j → k.get i = k'.get i
  b0 : wr.heap[w.heap.size]? = some (.cells #[.int .u8 op, .string name, .int .i64 n, .slice q L cap] 25 (0, 0))
  b1 : wr.heap[w.heap.size + 1]? = some (.cells #[.int .u8 op, .string name, .int .i64 n, .slice q' L cap'] 25 (0, 0))
  below : Below w.heap.size w wr

theorem AlkI.go {w : World} {op : Int} {name : ByteArray} {n : Int} {k k' : Fo} {q q' : Option Addr} {L cap cap' j : Nat} {wr w2 : World} (h : AlkI w op name n k k' q q' L cap cap' j wr) (hb : Below wr.drew.heap.size wr.drew w2) (hj : j < L) (he : k.get j = k'.get j) :
    AlkI w op name n k k' q q' L cap cap' (j + 1) w2 :=
  ⟨hj, fun i hi => by
    by_cases hij : i = j
    · rw [hij]; exact he
    · exact h.al i (by omega), (hb.block _ (Array.getElem?_eq_some_iff.1 h.b0).1).trans h.b0, (hb.block _ (Array.getElem?_eq_some_iff.1 h.b1).1).trans h.b1, h.below.drew.trans (hb.mono h.below.size)⟩

set_option maxRecDepth 100000 in
set_option maxHeartbeats 1000000 in
theorem Alike_any : ∀ (n : Nat) (h h' : Hd) (k k' : Fo) (q q' : Option Addr) (cap cap' : Nat) (w : World), k.size < n → h.ok → h'.ok → k.ok → k'.ok → SlF w q cap k → SlF w q' cap' k' →
    Calls Try.prog 16 #[.agg #[.int .u8 h.op, .string h.name, .int .i64 h.n, .slice q k.len cap], .agg #[.int .u8 h'.op, .string h'.name, .int .i64 h'.n, .slice q' k'.len cap']] w fun e w' => e = .returned (.bool (alk (h, k) (h', k'))) ∧ Below w.heap.size w w' := by
  intro n
  induction n with
  | zero => intro h h' k k' q q' cap cap' w hn; omega
  | succ n ih =>
    intro h h' k k' q q' cap cap' w hn hh hh' hk hk' hs hs'
    obtain ⟨op, name, nn⟩ := h
    obtain ⟨op', name', nn'⟩ := h'
    by_cases hop : op = op'
    · subst hop
      by_cases hnm : name = name'
      · subst hnm
        by_cases hnn : nn = nn'
        · subst hnn
          by_cases hL : k.len = k'.len
          · -- alike but for the Kids
            have HE : Hid ((∀ i, i < k.len → k.get i = k'.get i) → alk (⟨op, name, nn⟩, k) (⟨op, name, nn⟩, k') = true) := Lib.hid (fun h => by rw [Fo.ext_get hL h]; exact alk_self _)
            have HF : Hid (∀ i, k.get i ≠ k'.get i → alk (⟨op, name, nn⟩, k) (⟨op, name, nn⟩, k') = false) := Lib.hid (fun i h => alk_no (fun e => h (by rw [(Prod.mk.inj e).2])))
            have hst : ∀ o1 : Obj, AlkI w op name nn k k' q q' k.len cap cap' 0 ((w.alloc (.cells #[.int .u8 op, .string name, .int .i64 nn, .slice q k.len cap] 25)).alloc (.cells #[.int .u8 op, .string name, .int .i64 nn, .slice q' k.len cap'] 25)) := fun _ => by
              have := two_boxes (Below.refl ((w.alloc (.cells #[.int .u8 op, .string name, .int .i64 nn, .slice q k.len cap] 25)).alloc (.cells #[.int .u8 op, .string name, .int .i64 nn, .slice q' k.len cap'] 25)).heap.size _)
              exact ⟨Nat.zero_le _, fun i h => by omega, this.2.1, this.2.2, this.1⟩
            have HST := Lib.hid (hst (.cells #[] 0))
            have HS := Lib.hid hs
            have HS' := Lib.hid hs'
            have HL := Lib.hid hL
            have HIH := Lib.hid ih
            have hcl := hs.lc
            have hcl' := hs'.lc
            have hcm := hs.cm
            have hcm' := hs'.cm
            unfold maxLen at hcm hcm'
            rw [← hL] at hcl' ⊢
            clear hst hs hs' hL ih
            generalize alk (⟨op, name, nn⟩, k) (⟨op, name, nn⟩, k') = r at *
            generalize hLd : k.len = L at *
            have HLD := Lib.hid hLd
            clear hLd
            go_enter Try.func16, Try.ntmps16
            go_wp2
            go_loopw [5] (fun i wr => ∃ j : Nat, i = .int .i64 j ∧ AlkI w op name nn k k' q q' L cap cap' j wr) (fun i _ => L - (intOf i).toNat)
            case atStart => exact ⟨0, rfl, HST.out⟩
            case round =>
              obtain ⟨j, rfl, hI⟩ := hrel
              obtain ⟨x0, x1, x2, x3, _⟩ := row4 hI.b0
              obtain ⟨y0, y1, y2, y3, _⟩ := row4 hI.b1
              have hjL := hI.le
              have HI := Lib.hid hI
              clear hI
              by_cases hj : j < L
              · have hjk : j < k.len := by rw [HLD.out]; exact hj
                have hjk' : j < k'.len := by rw [← HL.out]; exact hj
                obtain ⟨b, o, rfl, hfo⟩ := ((HS.out.below HI.out.below).at_ (Nat.lt_of_le_of_lt (Nat.zero_le _) hjk))
                obtain ⟨b', o', rfl, hfo'⟩ := ((HS'.out.below HI.out.below).at_ (Nat.lt_of_le_of_lt (Nat.zero_le _) hjk'))
                obtain ⟨q1, cap1, hd1, hs1⟩ := hfo.get j hjk
                obtain ⟨q2, cap2, hd2, hs2⟩ := hfo'.get j hjk'
                have c0 := hd1.c0
                have c1 := hd1.c1
                have c2 := hd1.c2
                have c3 := hd1.c3
                have d0 := hd2.c0
                have d1 := hd2.c1
                have d2 := hd2.c2
                have d3 := hd2.c3
                have ho1 := Fo.ok_get hk j hjk
                have ho2 := Fo.ok_get hk' j hjk'
                have hsz := Fo.get_size hjk
                have HC := Lib.hid fun w => HIH.out (k.get j).1 (k'.get j).1 (k.get j).2 (k'.get j).2 q1 q2 cap1 cap2 w (by omega) ho1.1 ho2.1 ho1.2 ho2.2
                have HS1 := Lib.hid hs1
                have HS2 := Lib.hid hs2
                have hj0 : (j : Int) < L := by omega
                have hj1 : (0 : Int) ≤ j := by omega
                have hbd : ∀ w0 : World, Below w0.heap.size w0 w0.drew := fun w0 => (Below.refl _ _).drew
                have HBD := Lib.hid (hbd wr)
                clear hd1 hd2 hfo hfo' hs1 hs2 ho1 ho2 hsz hbd
                by_cases heq : k.get j = k'.get j
                · have hat : alk ((k.get j).1, (k.get j).2) ((k'.get j).1, (k'.get j).2) = true := by rw [heq]; exact alk_self _
                  have HEQ := Lib.hid heq
                  rw [hat] at HC
                  clear heq hat
                  generalize (k.get j).1.op = g1 at *
                  generalize (k.get j).1.name = g2 at *
                  generalize (k.get j).1.n = g3 at *
                  generalize (k'.get j).1.op = g5 at *
                  generalize (k'.get j).1.name = g6 at *
                  generalize (k'.get j).1.n = g7 at *
                  go_wp2
                  go_still_tail 10, (by kernel_rfl)
                  change wpList _ _ _ _ _ wr.drew
                  go_wp2_with (go_at_call 16; refine (HC.out _ (HS1.out.below HBD.out) (HS2.out.below HBD.out)).mono ?_; rintro e w2 ⟨rfl, hb2⟩; have HB2 := Lib.hid hb2; clear hb2)
                  go_roundw
                  case rel => exact ⟨j + 1, by go_num, HI.out.go HB2.out hj HEQ.out⟩
                  case measure => simp [intOf]; omega
                · have hat : alk ((k.get j).1, (k.get j).2) ((k'.get j).1, (k'.get j).2) = false := alk_no heq
                  have hr := HF.out j heq
                  have HR := Lib.hid hr
                  rw [hat] at HC
                  clear heq hat hr
                  generalize (k.get j).1.op = g1 at *
                  generalize (k.get j).1.name = g2 at *
                  generalize (k.get j).1.n = g3 at *
                  generalize (k'.get j).1.op = g5 at *
                  generalize (k'.get j).1.name = g6 at *
                  generalize (k'.get j).1.n = g7 at *
                  go_wp2
                  go_still_tail 10, (by kernel_rfl)
                  change wpList _ _ _ _ _ wr.drew
                  go_wp2_with (go_at_call 16; refine (HC.out _ (HS1.out.below HBD.out) (HS2.out.below HBD.out)).mono ?_; rintro e w2 ⟨rfl, hb2⟩; have HB2 := Lib.hid hb2; clear hb2)
                  go_ret
                  exact ⟨ret_bool HR.out.symm, HI.out.below.drew.trans (HB2.out.mono HI.out.below.size)⟩
              · have hje : j = L := by omega
                have HJ := Lib.hid hje
                clear hje
                go_wp2
                go_ret
                exact ⟨ret_bool (HE.out (fun i hi => HI.out.al i (by rw [HJ.out]; exact hi))).symm, HI.out.below⟩
          · have hL' : ((k.len : Int) != k'.len) = true := by simp; omega
            have HN : Hid (alk (⟨op, name, nn⟩, k) (⟨op, name, nn⟩, k') = false) := Lib.hid (alk_no (fun e => hL (by rw [(Prod.mk.inj e).2])))
            clear hL
            go_enter Try.func16, Try.ntmps16
            go_wp2
            go_ret
            exact ⟨ret_bool HN.out.symm, ((Below.refl _ _).alloc (Nat.le_refl _) _).alloc (by simp) _⟩
        · have HN : Hid (alk (⟨op, name, nn⟩, k) (⟨op, name, nn'⟩, k') = false) := Lib.hid (alk_no (fun e => hnn (congrArg (fun x => x.1.n) e)))
          have hnn' : (nn != nn') = true := by simpa using hnn
          clear hnn
          go_enter Try.func16, Try.ntmps16
          go_wp2
          go_ret
          exact ⟨ret_bool HN.out.symm, ((Below.refl _ _).alloc (Nat.le_refl _) _).alloc (by simp) _⟩
      · have HN : Hid (alk (⟨op, name, nn⟩, k) (⟨op, name', nn'⟩, k') = false) := Lib.hid (alk_no (fun e => hnm (congrArg (fun x => x.1.name) e)))
        have hnm' : (name.toList == name'.toList) = false := by rw [beq_eq_false_iff_ne]; exact fun e => hnm (toList_inj e)
        clear hnm
        go_enter Try.func16, Try.ntmps16
        go_wp2
        go_ret
        exact ⟨ret_bool HN.out.symm, ((Below.refl _ _).alloc (Nat.le_refl _) _).alloc (by simp) _⟩
    · have hop' : (op != op') = true := by simpa using hop
      have HN : Hid (alk (⟨op, name, nn⟩, k) (⟨op', name', nn'⟩, k') = false) := Lib.hid (alk_no (fun e => hop (congrArg (fun x => x.1.op) e)))
      clear hop
      go_enter Try.func16, Try.ntmps16
      go_wp2
      go_ret
      exact ⟨ret_bool HN.out.symm, ((Below.refl _ _).alloc (Nat.le_refl _) _).alloc (by simp) _⟩

end Go.Proofs.Ytmjijmkdeblefaa
