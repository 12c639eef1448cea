/- The document's Right of terms. -/
import Derived.Test.YtcjhgefkbnbmnaaPTnE
namespace Go.Proofs.Ytcjhgefkbnbmnaa
open Go.RowKit LM
set_option linter.unusedVariables false

theorem TF.get_bulk : ∀ {f : TF} {i : Nat}, i < f.len → 1 + (f.get i).1.ak.size + (f.get i).2.bulk ≤ f.bulk
  | .nil, i, hi => by simp [TF.len] at hi
  | .cons h k r, 0, _ => by rw [TF.get_zero]; simp only [TF.bulk]; omega
  | .cons h k r, i + 1, hi => by
    rw [TF.get_succ]
    have := TF.get_bulk (f := r) (i := i) (by simp [TF.len] at hi; omega)
    simp only [TF.bulk]; omega
theorem cntE_take {s : ByteArray} {j : Nat} (hj : j < s.size) : cntE (s.toList.take (j + 1)) = cntE (s.toList.take j) + if ((s[j].toNat : Int) == 101) = true then 1 else 0 := by
  have h1 := data_get s j hj
  unfold cntE
  rw [List.take_add_one, h1]
  simp only [Option.toList_some, List.filter_append, List.length_append, List.filter_cons, List.filter_nil]
  have e : (s[j] == (101 : UInt8)) = ((s[j].toNat : Int) == 101) := by
    rw [Bool.eq_iff_iff, beq_iff_eq, beq_iff_eq, ← UInt8.toNat_inj]; simp; omega
  rw [e]
  split <;> simp
theorem cntE_le (l : List UInt8) : cntE l ≤ l.length := List.length_filter_le _ _
theorem ltrs_len (op : Int) : (ltrs op).length ≤ 4 := by
  unfold ltrs
  split
  · simp
  · rw [List.getD_eq_getElem?_getD]
    rcases Nat.lt_or_ge (op - 32).toNat ltrL.length with h | h
    · have : ∀ i, (hi : i < ltrL.length) → (ltrL[i]).length ≤ 4 := by decide
      rw [List.getElem?_eq_getElem h]; exact this _ h
    · rw [List.getElem?_eq_none h]; simp

theorem tr_b {e0 arm a49 a50 pr : Bool} {op : Int} {l : List UInt8} (h0 : (l == []) = e0) (h49 : (op == 49) = a49) (h50 : (op == 50) = a50) :
    (e0 || (arm != (a49 || a50)) || !pr) = false ↔ (l ≠ [] ∧ (arm = true ↔ op = 49 ∨ op = 50) ∧ pr = true) := by
  have i0 : e0 = false ↔ l ≠ [] := by rw [← h0]; cases l <;> simp
  have i1 : (a49 || a50) = true ↔ op = 49 ∨ op = 50 := by rw [← h49, ← h50]; simp
  rw [← i0, ← i1]
  cases e0 <;> cases arm <;> cases (a49 || a50) <;> cases pr <;> simp

def RM2 (C : World → Prop) (w : World) (h : TH) (L : Nat) (qa : Option Addr) (ca : Nat) (q : Option Addr) (cap : Nat) (arm : Bool) (p : ByteArray) (r : Bool) (e : Exit) (a : Act) (W : World) : Prop :=
  e = .normal ∧ C W ∧ ∃ u10 u11 u12 u13 u14 u15 u16 u17 u18 u19 u20 u21 u22 u23 u24 u25 u26 u27 u28 u29 u30 u31 : Value, a = { tmps := #[.agg #[.int .u8 h.op, .string h.name, .string h.arg, .int .i64 h.n, .bool h.has, .int .u8 h.ah.op, .string h.ah.name, .int .i64 h.ah.n, .slice qa h.ak.len ca, .slice q L cap], .bool arm, .pointer (some ⟨w.heap.size, 0, none⟩), undef, .bool false, .string p, undef, undef, undef, undef, u10, u11, u12, u13, u14, u15, u16, u17, u18, u19, u20, u21, u22, u23, u24, u25, u26, u27, u28, u29, u30, u31, .bool r, undef, undef, undef, undef, undef, undef, undef, undef, undef, undef, undef, undef, undef, undef, undef, undef, undef, undef, undef, undef, undef, undef, undef, undef, undef, undef, undef, undef, undef, undef, undef, undef, undef, undef, undef, undef, undef, undef, undef, undef, undef, undef, undef, undef, undef, undef, undef, undef, undef, undef, undef, undef, undef, undef, undef, undef, undef, undef, undef, undef, undef, undef, undef, undef, undef, undef, undef, undef, undef, undef, undef, undef, undef, undef], defers := [] }
set_option maxRecDepth 100000 in
set_option maxHeartbeats 4000000 in
theorem tr_r2 (h : TH) (L : Nat) (qa : Option Addr) (ca : Nat) (q : Option Addr) (cap : Nat) (arm : Bool) (p : ByteArray) (w W0 : World) (W : World) (hb : Below W0.heap.size W0 W) (HCEL : Hid (∀ W, Below W0.heap.size W0 W → W.heap[w.heap.size]? = some (.cells #[.int .u8 h.op, .string h.name, .string h.arg, .int .i64 h.n, .bool h.has, .int .u8 h.ah.op, .string h.ah.name, .int .i64 h.ah.n, .slice qa h.ak.len ca, .slice q L cap] 43 (0, 0))))
    (e0 a49 a50 pr : Bool) (h0 : (p.toList == []) = e0) (h49 : (h.op == 49) = a49) (h50 : (h.op == 50) = a50)
    (HPT : Hid (∀ W, Below W0.heap.size W0 W → Calls Try.prog 77 #[.agg #[.int .u8 h.op, .string h.name, .string h.arg, .int .i64 h.n, .bool h.has, .int .u8 h.ah.op, .string h.ah.name, .int .i64 h.ah.n, .slice qa h.ak.len ca, .slice q L cap], .string p] W fun e w' => e = .returned (.bool pr) ∧ Below W0.heap.size W0 w')) (u10 u11 u12 : Value) :
    ∀ R, regOf 2 (Try.f35.body.getD .skip) = some R → R.wp Try.prog (RM2 (fun W' => Below W0.heap.size W0 W') w h L qa ca q cap arm p (e0 || (arm != (a49 || a50)) || !pr)) { tmps := #[.agg #[.int .u8 h.op, .string h.name, .string h.arg, .int .i64 h.n, .bool h.has, .int .u8 h.ah.op, .string h.ah.name, .int .i64 h.ah.n, .slice qa h.ak.len ca, .slice q L cap], .bool arm, .pointer (some ⟨w.heap.size, 0, none⟩), undef, .bool false, .string p, undef, undef, undef, undef, u10, u11, u12, undef, undef, undef, undef, undef, undef, undef, undef, undef, undef, undef, undef, undef, undef, undef, undef, undef, undef, undef, undef, undef, undef, undef, undef, undef, undef, undef, undef, undef, undef, undef, undef, undef, undef, undef, undef, undef, undef, undef, undef, undef, undef, undef, undef, undef, undef, undef, undef, undef, undef, undef, undef, undef, undef, undef, undef, undef, undef, undef, undef, undef, undef, undef, undef, undef, undef, undef, undef, undef, undef, undef, undef, undef, undef, undef, undef, undef, undef, undef, undef, undef, undef, undef, undef, undef, undef, undef, undef, undef, undef, undef, undef, undef, undef], defers := [] } W := by
  rintro R hR
  have hR' := Option.some.inj ((show regOf 2 (Try.f35.body.getD .skip) = some _ from rfl).symm.trans hR)
  subst hR'
  clear hR
  have HB := Lib.hid hb
  obtain ⟨x0, x1, x2, x3, x4, x5, x6, x7, x8, x9⟩ := row10 (HCEL.out _ hb)
  clear hb
  dsimp only
  cases e0
  · cases arm <;> cases a49 <;> cases a50
    all_goals
      go_wp2_with (go_at_call 77; (with_reducible refine (HPT.out _ HB.out).mono ?_); rintro e w2 ⟨rfl, hb2⟩)
      first
        | exact ⟨rfl, hb2, _, _, _, _, _, _, _, _, _, _, _, _, _, _, _, _, _, _, _, _, _, _, rfl⟩
        | exact ⟨rfl, HB.out, _, _, _, _, _, _, _, _, _, _, _, _, _, _, _, _, _, _, _, _, _, _, rfl⟩
  · go_wp2
    exact ⟨rfl, HB.out, _, _, _, _, _, _, _, _, _, _, _, _, _, _, _, _, _, _, _, _, _, _, rfl⟩

set_option maxRecDepth 100000 in
set_option maxHeartbeats 8000000 in
theorem refTR_any (m : Nat) : ∀ (arm : Bool) (h : TH) (k : TF) (qa : Option Addr) (ca : Nat) (q : Option Addr) (cap : Nat) (w : World), k.size < m → h.ok → k.ok → SlF w qa ca h.ak → TSl w q cap k → 1 + h.ak.size + k.bulk ≤ 1073741824 →
    Calls Try.prog 35 #[.agg (tmV h qa ca q k.len cap), .bool arm] w fun e w' => e = .returned (.bool (rT arm (h, k))) ∧ Below w.heap.size w w' := by
  induction m with
  | zero => intro arm h k qa ca q cap w hm; omega
  | succ m ih =>
    intro arm h k qa ca q cap w hm hh hk ha hs hbk
    have HIH : Hid (∀ i, i < k.len → ∀ arm qa' ca' q' cap' W, SlF W qa' ca' (k.get i).1.ak → TSl W q' cap' (k.get i).2 → Calls Try.prog 35 #[.agg (tmV (k.get i).1 qa' ca' q' (k.get i).2.len cap'), .bool arm] W fun e w' => e = .returned (.bool (rT arm (k.get i))) ∧ Below W.heap.size W w') :=
      Lib.hid fun i hi arm qa' ca' q' cap' W h1 h2 => ih arm (k.get i).1 (k.get i).2 qa' ca' q' cap' W (by have := TF.get_size hi; omega) (TF.ok_get hk i hi).1 (TF.ok_get hk i hi).2 h1 h2 (by have := TF.get_bulk hi; omega)
    have HR := Lib.hid (rT_iff (arm := arm) (k := k) hh)
    have hlt := ltrs_len h.op
    have h99 := ltrs_c hh.op0
    have HPS := Lib.hid fun W => PartsS_any h.op W hh.op0 hh.op1
    obtain ⟨p, hpd, hpl⟩ : ∃ p : ByteArray, (⟨(ltrs h.op).toArray⟩ : ByteArray) = p ∧ p.toList = ltrs h.op := ⟨_, rfl, by rw [ByteArray.toList_mk]⟩
    have hps : p.size ≤ 4 := by rw [← data_len, hpl]; exact hlt
    rw [hpd] at HPS
    have hpt := fun W (hb : Below w.heap.size w W) => tparts_any h k qa ca q cap p W hh (ha.below hb) (by omega) (by omega)
    have HKL := Lib.hid (show k.len ≤ 1073741824 by have := TF.len_le_size k; have := TF.size_le_bulk k; omega)
    have hx0 := World.alloc_heap_new w (.cells (tmV h qa ca q k.len cap) 43)
    have hbx := below_box w (.cells (tmV h qa ca q k.len cap) 43)
    rw [← hpl] at HR h99
    have HSL := Lib.hid hs
    have hlc := hs.lc
    have hcm := hs.cm
    unfold maxLen at hcm
    obtain ⟨L, hLd⟩ : ∃ L, k.len = L := ⟨_, rfl⟩
    have HLD := Lib.hid hLd
    rw [hLd] at hlc hpt hx0 hbx ⊢
    have HKL2 : L ≤ 1073741824 := by rw [← hLd]; exact HKL.out
    clear hLd ih hm hh hk ha hs hbk hpd hlt HKL
    unfold tmV at hx0 hbx HIH hpt ⊢
    generalize rT arm (h, k) = r at *
    generalize hprd : partsR h p.toList = pr at *
    have HPR : Hid (r = true ↔ p.toList ≠ [] ∧ (arm = true ↔ h.op = 49 ∨ h.op = 50) ∧ pr = true ∧ kidsR h.op k) := Lib.hid HR.out
    have hpl' := hpl.symm
    have HCEL : Hid (∀ W, Below (w.alloc (.cells #[.int .u8 h.op, .string h.name, .string h.arg, .int .i64 h.n, .bool h.has, .int .u8 h.ah.op, .string h.ah.name, .int .i64 h.ah.n, .slice qa h.ak.len ca, .slice q L cap] 43)).heap.size (w.alloc (.cells #[.int .u8 h.op, .string h.name, .string h.arg, .int .i64 h.n, .bool h.has, .int .u8 h.ah.op, .string h.ah.name, .int .i64 h.ah.n, .slice qa h.ak.len ca, .slice q L cap] 43)) W → W.heap[w.heap.size]? = some (.cells #[.int .u8 h.op, .string h.name, .string h.arg, .int .i64 h.n, .bool h.has, .int .u8 h.ah.op, .string h.ah.name, .int .i64 h.ah.n, .slice qa h.ak.len ca, .slice q L cap] 43 (0, 0))) := Lib.hid fun W hb => (hb.block _ (by simp)).trans hx0
    have HPT : Hid (∀ W, Below (w.alloc (.cells #[.int .u8 h.op, .string h.name, .string h.arg, .int .i64 h.n, .bool h.has, .int .u8 h.ah.op, .string h.ah.name, .int .i64 h.ah.n, .slice qa h.ak.len ca, .slice q L cap] 43)).heap.size (w.alloc (.cells #[.int .u8 h.op, .string h.name, .string h.arg, .int .i64 h.n, .bool h.has, .int .u8 h.ah.op, .string h.ah.name, .int .i64 h.ah.n, .slice qa h.ak.len ca, .slice q L cap] 43)) W → Calls Try.prog 77 #[.agg #[.int .u8 h.op, .string h.name, .string h.arg, .int .i64 h.n, .bool h.has, .int .u8 h.ah.op, .string h.ah.name, .int .i64 h.ah.n, .slice qa h.ak.len ca, .slice q L cap], .string p] W fun e w' => e = .returned (.bool pr) ∧ Below (w.alloc (.cells #[.int .u8 h.op, .string h.name, .string h.arg, .int .i64 h.n, .bool h.has, .int .u8 h.ah.op, .string h.ah.name, .int .i64 h.ah.n, .slice qa h.ak.len ca, .slice q L cap] 43)).heap.size (w.alloc (.cells #[.int .u8 h.op, .string h.name, .string h.arg, .int .i64 h.n, .bool h.has, .int .u8 h.ah.op, .string h.ah.name, .int .i64 h.ah.n, .slice qa h.ak.len ca, .slice q L cap] 43)) w') := Lib.hid fun W hb => (hpt W (below_go2 hbx hb)).mono fun e w2 hh => ⟨hh.1, below_go2 hb hh.2⟩
    have HBW : Hid (∀ W, Below (w.alloc (.cells #[.int .u8 h.op, .string h.name, .string h.arg, .int .i64 h.n, .bool h.has, .int .u8 h.ah.op, .string h.ah.name, .int .i64 h.ah.n, .slice qa h.ak.len ca, .slice q L cap] 43)).heap.size (w.alloc (.cells #[.int .u8 h.op, .string h.name, .string h.arg, .int .i64 h.n, .bool h.has, .int .u8 h.ah.op, .string h.ah.name, .int .i64 h.ah.n, .slice qa h.ak.len ca, .slice q L cap] 43)) W → Below w.heap.size w W) := Lib.hid fun W hb => below_go2 hbx hb
    obtain ⟨e0, h0⟩ : ∃ b, (p.toList == []) = b := ⟨_, rfl⟩
    obtain ⟨a49, h49⟩ : ∃ b, (h.op == 49) = b := ⟨_, rfl⟩
    obtain ⟨a50, h50⟩ : ∃ b, (h.op == 50) = b := ⟨_, rfl⟩
    have HTB := Lib.hid (tr_b (arm := arm) (pr := pr) h0 h49 h50)
    have R2 := Lib.hid fun W hb u10 u11 u12 => tr_r2 h L qa ca q cap arm p w (w.alloc (.cells #[.int .u8 h.op, .string h.name, .string h.arg, .int .i64 h.n, .bool h.has, .int .u8 h.ah.op, .string h.ah.name, .int .i64 h.ah.n, .slice qa h.ak.len ca, .slice q L cap] 43)) W hb HCEL e0 a49 a50 pr h0 h49 h50 HPT u10 u11 u12
    have HKR : Hid (kidsR h.op k ↔ ((h.op = 48 → 0 < k.len ∧ rT false (k.get 0) = true ∧ ∀ i, 1 ≤ i → i < k.len → rT true (k.get i) = true ∧ ((k.get i).1.op = 50 → i + 1 = k.len)) ∧ (h.op ≠ 48 → k.len = cntE p.toList ∧ ∀ i, i < k.len → rT false (k.get i) = true))) := Lib.hid (by unfold kidsR; rw [hpl'])
    have H99 := Lib.hid h99
    clear hx0 hbx hpt hprd HR h0 h49 h50 HPT hpl hpl' h99
    go_enter Try.func35, Try.ntmps35
    go_wp2_with fail
    refine (HPS.out _).mono ?_
    rintro e W1 ⟨rfl, hb1⟩
    have HB1 := Lib.hid hb1
    clear hb1 HPS
    generalize (w.alloc (.cells #[.int .u8 h.op, .string h.name, .string h.arg, .int .i64 h.n, .bool h.has, .int .u8 h.ah.op, .string h.ah.name, .int .i64 h.ah.n, .slice qa h.ak.len ca, .slice q L cap] 43)) = W0 at *
    go_upto_region 2 with (fail)
    refine Code.wp_mono (Q := RM2 (fun W' => Below W0.heap.size W0 W') w h L qa ca q cap arm p (e0 || (arm != (a49 || a50)) || !pr)) ?_ (R2.out W1 HB1.out _ _ _ _ rfl)
    rintro e a W2 ⟨rfl, hCW, u10, u11, u12, u13, u14, u15, u16, u17, u18, u19, u20, u21, u22, u23, u24, u25, u26, u27, u28, u29, u30, u31, rfl⟩
    have HB2 := Lib.hid hCW
    have HBW2 := Lib.hid (HBW.out _ hCW)
    clear hCW R2
    dsimp only
    generalize hr1 : (e0 || (arm != (a49 || a50)) || !pr) = r1 at *
    cases r1
    case true =>
      have HF : Hid (r = false) := Lib.hid (by
        cases hr : r with
        | false => rfl
        | true => obtain ⟨n0, n1, n2, _⟩ := HPR.out.1 hr; exact absurd (HTB.out.2 ⟨n0, n1, n2⟩) (by decide))
      clear hr1
      go_wp2
      go_ret
      exact ⟨ret_bool HF.out.symm, HBW2.out⟩
    have HPR2 : Hid (r = true ↔ kidsR h.op k) := Lib.hid (by
      obtain ⟨n0, n1, n2⟩ := HTB.out.1 rfl
      exact HPR.out.trans ⟨fun h => h.2.2.2, fun h => ⟨n0, n1, n2, h⟩⟩)
    clear hr1 HPR HTB
    have hcl := cntE_le p.toList
    rw [data_len] at hcl
    by_cases h48 : h.op = 48
    · have e99 : (p.toList == [99]) = true := by rw [beq_iff_eq]; exact H99.out.2 h48
      have HR3 : Hid (r = true ↔ 0 < k.len ∧ rT false (k.get 0) = true ∧ ∀ i, 1 ≤ i → i < k.len → rT true (k.get i) = true ∧ ((k.get i).1.op = 50 → i + 1 = k.len)) := Lib.hid (by
        rw [HPR2.out, HKR.out]; simp [h48])
      clear HPR2 HKR h48 H99
      have HCT := Lib.hid fun j (hj : j < p.size) => cntE_take (s := p) hj
      have HCA : Hid (cntE (p.toList.take p.size) = cntE p.toList) := Lib.hid (by rw [List.take_of_length_le (by rw [data_len]; exact Nat.le_refl _)])
      go_wp2
      go_loop [6, 7] (fun c i => ∃ j : Nat, i = .int .i64 j ∧ j ≤ p.size ∧ c = .int .i64 (cntE (p.toList.take j) : Nat)) (fun _ i => p.size - (intOf i).toNat)
      case atStart => exact ⟨0, rfl, Nat.zero_le _, by simp [cntE]⟩
      case round =>
        obtain ⟨j, rfl, hj, rfl⟩ := hrel
        have hcj : cntE (p.toList.take j) ≤ 4 := Nat.le_trans (cntE_le _) (by rw [List.length_take, data_len]; omega)
        by_cases hlt : j < p.size
        · have HT := Lib.hid (HCT.out j hlt)
          cases hc : ((p[j].toNat : Int) == 101)
          · have HE : Hid (cntE (p.toList.take (j + 1)) = cntE (p.toList.take j)) := Lib.hid (by rw [HT.out, hc]; rfl)
            go_wp2
            go_round
            case rel => exact ⟨j + 1, by go_num, by omega, by rw [HE.out]⟩
            case measure => simp [intOf]; omega
          · have HE : Hid (cntE (p.toList.take (j + 1)) = cntE (p.toList.take j) + 1) := Lib.hid (by rw [HT.out, hc]; rfl)
            go_wp2
            go_round
            case rel => exact ⟨j + 1, by go_num, by omega, by rw [HE.out]; go_num⟩
            case measure => simp [intOf]; omega
        · have hje : j = p.size := by omega
          rw [hje] at hcj ⊢
          rw [HCA.out] at hcj ⊢
          clear hje hlt hj HCT HCA
          generalize cntE p.toList = cn at *
          have HBr := HB2
          obtain ⟨x0, x1, x2, x3, x4, x5, x6, x7, x8, x9⟩ := row10 (HCEL.out _ HB2.out)
          by_cases hL : L = 0
          case pos =>
            have HF : Hid (r = false) := Lib.hid (by
              cases hr : r with
              | false => rfl
              | true => have := (HR3.out.1 hr).1; rw [HLD.out] at this; omega)
            subst hL
            go_wp2
            go_ret
            exact ⟨ret_bool HF.out.symm, HBW2.out⟩
          have hL' : ((L : Int) == 0) = false := by rw [beq_eq_false_iff_ne]; omega
          have hL2 : 0 < L := by omega
          clear hL
          obtain ⟨b, o, rfl, hfo⟩ := (HSL.out.below (HBW.out _ HBr.out)).at_ (show 0 < k.len by rw [HLD.out]; omega)
          obtain ⟨qa1, ca1, q1, cap1, hd1, ha1, hs1⟩ := hfo.get 0 (show 0 < k.len by rw [HLD.out]; omega)
          have c0 := hd1.c0
          have c1 := hd1.c1
          have c2 := hd1.c2
          have c3 := hd1.c3
          have c4 := hd1.c4
          have c5 := hd1.c5
          have c6 := hd1.c6
          have c7 := hd1.c7
          have c8 := hd1.c8
          have c9 := hd1.c9
          have HC := Lib.hid (HIH.out 0 (show 0 < k.len by rw [HLD.out]; omega) false qa1 ca1 q1 cap1 _ ha1 hs1)
          have HD := Lib.hid hd1
          obtain ⟨v, hv⟩ : ∃ v, rT false (k.get 0) = v := ⟨_, rfl⟩
          rw [hv] at HC
          have HV := Lib.hid hv
          clear hd1 hfo ha1 hs1 hv
          have HNO : Hid (v = false → r = false) := Lib.hid fun e => by
            cases hr : r with
            | false => rfl
            | true => have := (HR3.out.1 hr).2.1; rw [HV.out, e] at this; cases this
          simp only [Nat.zero_mul, Nat.add_zero] at c0 c1 c2 c3 c4 c5 c6 c7 c8 c9
          generalize (k.get 0).1 = t1 at *
          generalize (k.get 0).2.len = l1 at *
          clear HD
          go_wp2_with fail
          refine HC.out.mono ?_
          rintro e w3 ⟨rfl, hb3⟩
          have HB3 := Lib.hid (below_go2 HB2.out hb3)
          clear hb3 c0 c1 c2 c3 c4 c5 c6 c7 c8 c9 x0 x1 x2 x3 x4 x5 x6 x7 x8 x9 HBr
          cases v
          case false =>
            have HF := Lib.hid (HNO.out rfl)
            go_wp2
            go_ret
            exact ⟨ret_bool HF.out.symm, HBW.out _ HB3.out⟩
          have HV0 := HV
          clear HC HNO HV
          go_wp2
          go_loopw [8] (fun i wr => ∃ j : Nat, i = .int .i64 j ∧ 1 ≤ j ∧ j ≤ L ∧ Hid (∀ i, 1 ≤ i → i < j → rT true (k.get i) = true ∧ ((k.get i).1.op = 50 → i + 1 = k.len)) ∧ Below W0.heap.size W0 wr) (fun i _ => L - (intOf i).toNat)
          case atStart => exact ⟨1, rfl, Nat.le_refl _, by omega, Lib.hid fun i h1 h2 => by omega, HB3.out⟩
          case round =>
            obtain ⟨j, rfl, hj1, hj, HA, hbr⟩ := hrel
            have HBr := Lib.hid hbr
            obtain ⟨x0, x1, x2, x3, x4, x5, x6, x7, x8, x9⟩ := row10 (HCEL.out _ hbr)
            clear hbr
            by_cases hlt : j < L
            · skip
              obtain ⟨b', o', hqq, hfo⟩ := (HSL.out.below (HBW.out _ HBr.out)).at_ (show 0 < k.len by rw [HLD.out]; omega)
              obtain ⟨qa1, ca1, q1, cap1, hd1, ha1, hs1⟩ := hfo.get j (show j < k.len by rw [HLD.out]; omega)
              have c0 := hd1.c0
              have c1 := hd1.c1
              have c2 := hd1.c2
              have c3 := hd1.c3
              have c4 := hd1.c4
              have c5 := hd1.c5
              have c6 := hd1.c6
              have c7 := hd1.c7
              have c8 := hd1.c8
              have c9 := hd1.c9
              have HC := Lib.hid (HIH.out j (show j < k.len by rw [HLD.out]; omega) true qa1 ca1 q1 cap1 _ ha1 hs1)
              have HD := Lib.hid hd1
              obtain ⟨v, hv⟩ : ∃ v, rT true (k.get j) = v := ⟨_, rfl⟩
              rw [hv] at HC
              have HV := Lib.hid hv
              clear hd1 hfo ha1 hs1 hv
              cases hqq
              have HNO : Hid (v = false → r = false) := Lib.hid fun e => by
                cases hr : r with
                | false => rfl
                | true => have := ((HR3.out.1 hr).2.2 j hj1 (by rw [HLD.out]; exact hlt)).1; rw [HV.out, e] at this; cases this
              have HN5 : Hid ((k.get j).1.op = 50 → j + 1 ≠ L → r = false) := Lib.hid fun e e2 => by
                cases hr : r with
                | false => rfl
                | true => have := ((HR3.out.1 hr).2.2 j hj1 (by rw [HLD.out]; exact hlt)).2 e; rw [HLD.out] at this; exact absurd this e2
              have HNX : Hid (v = true → ((k.get j).1.op = 50 → j + 1 = L) → ∀ i, 1 ≤ i → i < j + 1 → rT true (k.get i) = true ∧ ((k.get i).1.op = 50 → i + 1 = k.len)) := Lib.hid fun e e3 i h1 hi => by
                by_cases e2 : i = j
                · rw [e2, HV.out, e, HLD.out]; exact ⟨rfl, e3⟩
                · exact HA.out i h1 (by omega)
              generalize (k.get j).1 = t1 at *
              generalize (k.get j).2.len = l1 at *
              go_wp2_with fail
              refine HC.out.mono ?_
              rintro e w4 ⟨rfl, hb4⟩
              have HB4 := Lib.hid (below_go2 HBr.out hb4)
              have d0 := (HD.out.same (hb4.block _ HD.out.lt)).c0
              clear hb4 c0 c1 c2 c3 c4 c5 c6 c7 c8 c9 x0 x1 x2 x3 x4 x5 x6 x7 x8 x9 HD
              obtain ⟨x0, x1, x2, x3, x4, x5, x6, x7, x8, x9⟩ := row10 (HCEL.out _ HB4.out)
              cases v
              · have HF := Lib.hid (HNO.out rfl)
                clear HN5 HNX
                go_wp2
                go_ret
                exact ⟨ret_bool HF.out.symm, HBW.out _ HB4.out⟩
              · by_cases h50 : t1.op = 50
                · have h50' : (t1.op == 50) = true := by simpa using h50
                  by_cases hl : j + 1 = L
                  · have HN := Lib.hid (HNX.out rfl fun _ => hl)
                    have hl' : decide ((j : Int) < (L : Int) - 1) = false := decide_eq_false (by omega)
                    clear HNO HN5 HNX h50
                    go_wp2
                    go_roundw
                    case rel => exact ⟨j + 1, by go_num, by omega, by omega, HN.out, HB4.out⟩
                    case measure => simp [intOf]; omega
                  · have HF := Lib.hid (HN5.out h50 hl)
                    have hl' : decide ((j : Int) < (L : Int) - 1) = true := decide_eq_true (by omega)
                    clear HNO HN5 HNX h50
                    go_wp2
                    go_ret
                    exact ⟨ret_bool HF.out.symm, HBW.out _ HB4.out⟩
                · have h50' : (t1.op == 50) = false := by simpa using h50
                  have HN := Lib.hid (HNX.out rfl fun e => absurd e h50)
                  clear HNO HN5 HNX h50
                  go_wp2
                  go_roundw
                  case rel => exact ⟨j + 1, by go_num, by omega, by omega, HN.out, HB4.out⟩
                  case measure => simp [intOf]; omega
            · have HF : Hid (r = true) := Lib.hid (HR3.out.2 ⟨by rw [HLD.out]; omega, HV0.out, fun i h1 hi => HA.out i h1 (by rw [HLD.out] at hi; omega)⟩)
              go_wp2
              go_ret
              exact ⟨ret_bool HF.out.symm, HBW.out _ HBr.out⟩
    · have e99 : (p.toList == [99]) = false := by rw [beq_eq_false_iff_ne]; exact fun e => h48 (H99.out.1 e)
      have HR3 : Hid (r = true ↔ k.len = cntE p.toList ∧ ∀ i, i < k.len → rT false (k.get i) = true) := Lib.hid (by
        rw [HPR2.out, HKR.out]; simp [h48])
      clear HPR2 HKR h48 H99
      have HCT := Lib.hid fun j (hj : j < p.size) => cntE_take (s := p) hj
      have HCA : Hid (cntE (p.toList.take p.size) = cntE p.toList) := Lib.hid (by rw [List.take_of_length_le (by rw [data_len]; exact Nat.le_refl _)])
      go_wp2
      go_loop [6, 7] (fun c i => ∃ j : Nat, i = .int .i64 j ∧ j ≤ p.size ∧ c = .int .i64 (cntE (p.toList.take j) : Nat)) (fun _ i => p.size - (intOf i).toNat)
      case atStart => exact ⟨0, rfl, Nat.zero_le _, by simp [cntE]⟩
      case round =>
        obtain ⟨j, rfl, hj, rfl⟩ := hrel
        have hcj : cntE (p.toList.take j) ≤ 4 := Nat.le_trans (cntE_le _) (by rw [List.length_take, data_len]; omega)
        by_cases hlt : j < p.size
        · have HT := Lib.hid (HCT.out j hlt)
          cases hc : ((p[j].toNat : Int) == 101)
          · have HE : Hid (cntE (p.toList.take (j + 1)) = cntE (p.toList.take j)) := Lib.hid (by rw [HT.out, hc]; rfl)
            go_wp2
            go_round
            case rel => exact ⟨j + 1, by go_num, by omega, by rw [HE.out]⟩
            case measure => simp [intOf]; omega
          · have HE : Hid (cntE (p.toList.take (j + 1)) = cntE (p.toList.take j) + 1) := Lib.hid (by rw [HT.out, hc]; rfl)
            go_wp2
            go_round
            case rel => exact ⟨j + 1, by go_num, by omega, by rw [HE.out]; go_num⟩
            case measure => simp [intOf]; omega
        · have hje : j = p.size := by omega
          rw [hje] at hcj ⊢
          rw [HCA.out] at hcj ⊢
          clear hje hlt hj HCT HCA
          obtain ⟨x0, x1, x2, x3, x4, x5, x6, x7, x8, x9⟩ := row10 (HCEL.out _ HB2.out)
          by_cases hL : L = cntE p.toList
          case neg =>
            have hL' : ((L : Int) != (cntE p.toList : Int)) = true := by rw [bne_iff_ne]; omega
            have HF : Hid (r = false) := Lib.hid (by
              cases hr : r with
              | false => rfl
              | true => have := (HR3.out.1 hr).1; rw [HLD.out] at this; exact absurd this hL)
            clear hL
            go_wp2
            go_ret
            exact ⟨ret_bool HF.out.symm, HBW2.out⟩
          have hL' : ((L : Int) != (cntE p.toList : Int)) = false := by rw [bne_eq_false_iff_eq]; omega
          have HL := Lib.hid hL
          clear hL
          generalize cntE p.toList = cn at *
          have hcn : cn = L := HL.out.symm
          clear HL
          subst hcn
          go_wp2
          clear x0 x1 x2 x3 x4 x5 x6 x7 x8 x9
          go_loopw [9] (fun i wr => ∃ j : Nat, i = .int .i64 j ∧ j ≤ cn ∧ Hid (∀ i, i < j → rT false (k.get i) = true) ∧ Below W0.heap.size W0 wr) (fun i _ => cn - (intOf i).toNat)
          case atStart => exact ⟨0, rfl, Nat.zero_le _, Lib.hid fun i h => absurd h (Nat.not_lt_zero _), HB2.out⟩
          case round =>
            obtain ⟨j, rfl, hj, HA, hbr⟩ := hrel
            have HBr := Lib.hid hbr
            obtain ⟨x0, x1, x2, x3, x4, x5, x6, x7, x8, x9⟩ := row10 (HCEL.out _ hbr)
            clear hbr
            by_cases hlt : j < cn
            · skip
              obtain ⟨b, o, rfl, hfo⟩ := (HSL.out.below (HBW.out _ HBr.out)).at_ (show 0 < k.len by rw [HLD.out]; omega)
              obtain ⟨qa1, ca1, q1, cap1, hd1, ha1, hs1⟩ := hfo.get j (show j < k.len by rw [HLD.out]; omega)
              have c0 := hd1.c0
              have c1 := hd1.c1
              have c2 := hd1.c2
              have c3 := hd1.c3
              have c4 := hd1.c4
              have c5 := hd1.c5
              have c6 := hd1.c6
              have c7 := hd1.c7
              have c8 := hd1.c8
              have c9 := hd1.c9
              have HC := Lib.hid (HIH.out j (show j < k.len by rw [HLD.out]; omega) false qa1 ca1 q1 cap1 _ ha1 hs1)
              have HD := Lib.hid hd1
              obtain ⟨v, hv⟩ : ∃ v, rT false (k.get j) = v := ⟨_, rfl⟩
              rw [hv] at HC
              have HV := Lib.hid hv
              clear hd1 hfo ha1 hs1 hv
              have HNO : Hid (v = false → r = false) := Lib.hid fun e => by
                cases hr : r with
                | false => rfl
                | true => have := (HR3.out.1 hr).2 j (by rw [HLD.out]; exact hlt); rw [HV.out, e] at this; cases this
              have HNX : Hid (v = true → ∀ i, i < j + 1 → rT false (k.get i) = true) := Lib.hid fun e i hi => by
                by_cases e2 : i = j
                · rw [e2, HV.out, e]
                · exact HA.out i (by omega)
              generalize (k.get j).1 = t1 at *
              generalize (k.get j).2.len = l1 at *
              clear HD
              go_wp2_with fail
              refine HC.out.mono ?_
              rintro e w3 ⟨rfl, hb3⟩
              have HB3 := Lib.hid (below_go2 HBr.out hb3)
              clear hb3 c0 c1 c2 c3 c4 c5 c6 c7 c8 c9 x0 x1 x2 x3 x4 x5 x6 x7 x8 x9
              cases v
              · have HF := Lib.hid (HNO.out rfl)
                go_wp2
                go_ret
                exact ⟨ret_bool HF.out.symm, HBW.out _ HB3.out⟩
              · have HN := Lib.hid (HNX.out rfl)
                go_wp2
                go_roundw
                case rel => exact ⟨j + 1, by go_num, by omega, HN, HB3.out⟩
                case measure => simp [intOf]; omega
            · have HF : Hid (r = true) := Lib.hid (HR3.out.2 ⟨HLD.out, fun i hi => HA.out i (by rw [HLD.out] at hi; omega)⟩)
              clear x0 x1 x2 x3 x4 x5 x6 x7 x8 x9
              go_wp2
              go_ret
              exact ⟨ret_bool HF.out.symm, HBW.out _ HBr.out⟩
end Go.Proofs.Ytcjhgefkbnbmnaa
