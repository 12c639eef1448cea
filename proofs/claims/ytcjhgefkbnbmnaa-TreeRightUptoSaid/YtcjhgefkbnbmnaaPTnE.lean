/- The document's has, Parts, zero; and parts of a term. -/
import Derived.Deep.QuietTactic
import Derived.BigQuiet
import Derived.Outline
import Derived.Test.YtcjhgefkbnbmnaaPTnA
import Derived.Test.YtcjhgefkbnbmnaaPTnB
namespace Go.Proofs.Ytcjhgefkbnbmnaa
open Go.RowKit LM
set_option linter.unusedVariables false

theorem hasL_no {s : ByteArray} {c : Int} (h : ∀ j (hj : j < s.size), ((s[j].toNat : Int) == c) = false) : hasL s.toList c = false := by
  unfold hasL
  rw [List.any_eq_false]
  intro x hx
  obtain ⟨i, hi, rfl⟩ := List.mem_iff_getElem.1 hx
  have hi' : i < s.size := by rw [← data_len]; exact hi
  have h1 := data_get s i hi'
  rw [List.getElem?_eq_getElem hi] at h1
  rw [Option.some.inj h1, h i hi']; decide
theorem hasL_yes {s : ByteArray} {c : Int} {j : Nat} (hj : j < s.size) (h : ((s[j].toNat : Int) == c) = true) : hasL s.toList c = true := by
  unfold hasL
  rw [List.any_eq_true]
  exact ⟨s[j], List.mem_of_getElem? (data_get s j hj), h⟩
set_option maxHeartbeats 1000000 in
theorem thas_any (s : ByteArray) (c : Int) (w : World) (hs : s.size ≤ 9223372036854775807) :
    Calls Try.prog 103 #[.string s, .int .u8 c] w fun e w' => e = .returned (.bool (hasL s.toList c)) ∧ w = w' := by
  go_enter Try.func103, Try.ntmps103
  go_wp2
  go_loop [5] (fun i => ∃ k : Nat, i = .int .i64 k ∧ k ≤ s.size ∧ Hid (∀ j (hj : j < s.size), j < k → ((s[j].toNat : Int) == c) = false)) (fun i => s.size - (intOf i).toNat)
  case atStart => exact ⟨0, rfl, Nat.zero_le _, Lib.hid fun j hj h => absurd h (Nat.not_lt_zero _)⟩
  case round =>
    obtain ⟨k, rfl, hk, H⟩ := hrel
    by_cases hlt : k < s.size
    · cases hc : ((s[k].toNat : Int) == c)
      · have HC := Lib.hid hc
        go_wp2
        go_round
        case rel =>
          refine ⟨k + 1, by go_num, by omega, Lib.hid fun j hj hjk => ?_⟩
          by_cases e : j < k
          · exact H.out j hj e
          · obtain rfl : j = k := by omega
            exact HC.out
        case measure => simp [intOf]; omega
      · have HF := Lib.hid (hasL_yes hlt hc)
        go_wp2
        go_ret
        exact ⟨ret_bool HF.out.symm, rfl⟩
    · have HF : Hid (hasL s.toList c = false) := Lib.hid (hasL_no fun j hj => H.out j hj (by omega))
      go_wp2
      go_ret
      exact ⟨ret_bool HF.out.symm, rfl⟩
set_option maxRecDepth 100000 in
set_option maxHeartbeats 1000000 in
theorem PartsS_any (op : Int) (w : World) (h0 : 0 ≤ op) (h1 : op ≤ 255) :
    Calls Try.prog 76 #[.int .u8 op] w fun e w' => e = .returned (.string ⟨(ltrs op).toArray⟩) ∧ Below w.heap.size w w' := by
  have HB := Lib.hid (below_box w (.cells (ltrL.map strV).toArray 9))
  by_cases h2 : op < 32
  · have HL : Hid (ltrs op = []) := Lib.hid (by unfold ltrs; rw [if_pos h2])
    go_enter Try.func76, Try.ntmps76
    go_wp2
    go_ret
    exact ⟨by rw [HL.out]; rfl, HB.out⟩
  · by_cases h3 : 52 ≤ op
    · have HL : Hid (ltrs op = []) := Lib.hid (by unfold ltrs; rw [if_neg h2, List.getD_eq_getElem?_getD, List.getElem?_eq_none (by simp [ltrL]; omega)]; rfl)
      go_enter Try.func76, Try.ntmps76
      go_wp2
      go_ret
      exact ⟨by rw [HL.out]; rfl, HB.out⟩
    · have hlt : (op - 32).toNat < ltrL.length := by simp [ltrL]; omega
      have hc : (w.alloc (.cells (ltrL.map strV).toArray 9)).cell? ⟨w.heap.size, (op - 32).toNat, none⟩ = some (.string ⟨(ltrs op).toArray⟩) := by
        have := World.alloc_heap_new w (.cells (ltrL.map strV).toArray 9)
        simp only [World.cell?, this]
        simp only [List.getElem?_toArray, List.getElem?_map, List.getElem?_eq_getElem hlt]
        unfold ltrs; rw [if_neg h2, List.getD_eq_getElem?_getD, List.getElem?_eq_getElem hlt]; rfl
      simp only [ltrL, List.map_cons, List.map_nil, strV] at hc
      go_enter Try.func76, Try.ntmps76
      go_wp2
      go_ret
      exact ⟨rfl, HB.out⟩

set_option maxRecDepth 100000 in
theorem zero5_any (h : Hd) (k : Fo) (q : Option Addr) (cap : Nat) (w : World) :
    Calls Try.prog 104 #[.agg #[.int .u8 h.op, .string h.name, .int .i64 h.n, .slice q k.len cap]] w fun e w' => e = .returned (.bool (zeroB h k)) ∧ Below w.heap.size w w' := by
  have HB := Lib.hid (below_box w (.cells #[.int .u8 h.op, .string h.name, .int .i64 h.n, .slice q k.len cap] 25))
  have HZ : Hid (zeroB h k = (decide (h.op = 0) && decide (h.name = ⟨#[]⟩) && decide (h.n = 0) && decide (k.len = 0))) := Lib.hid rfl
  have e2 := str_eq2 h.name []
  generalize zeroB h k = r at *
  generalize k.len = L at *
  by_cases h0 : h.op = 0
  case neg =>
    have e0 : (h.op == 0) = false := by rw [beq_eq_false_iff_ne]; exact h0
    have HN : Hid (r = false) := Lib.hid (by rw [HZ.out]; simp [h0])
    clear h0 e2
    go_enter Try.func104, Try.ntmps104
    go_wp2
    go_ret
    exact ⟨ret_bool HN.out.symm, HB.out⟩
  have e0 : (h.op == 0) = true := by simpa using h0
  by_cases h1 : h.name = ⟨#[]⟩
  case neg =>
    have e3 : (h.name.toList == []) = false := by rw [e2]; simpa using h1
    have HN : Hid (r = false) := Lib.hid (by rw [HZ.out]; simp [h1])
    clear h0 h1 e2
    go_enter Try.func104, Try.ntmps104
    go_wp2
    go_ret
    exact ⟨ret_bool HN.out.symm, HB.out⟩
  have e3 : (h.name.toList == []) = true := by rw [e2]; simpa using h1
  by_cases h2 : h.n = 0
  case neg =>
    have e4 : (h.n == 0) = false := by rw [beq_eq_false_iff_ne]; exact h2
    have HN : Hid (r = false) := Lib.hid (by rw [HZ.out]; simp [h2])
    clear h0 h1 h2 e2
    go_enter Try.func104, Try.ntmps104
    go_wp2
    go_ret
    exact ⟨ret_bool HN.out.symm, HB.out⟩
  have e4 : (h.n == 0) = true := by simpa using h2
  have e5 : ((L : Int) == 0) = decide (L = 0) := by rw [Bool.eq_iff_iff, beq_iff_eq, decide_eq_true_eq]; omega
  have HN : Hid (r = decide (L = 0)) := Lib.hid (by rw [HZ.out]; simp [h0, h1, h2])
  clear h0 h1 h2 e2
  go_enter Try.func104, Try.ntmps104
  go_wp2
  go_ret
  exact ⟨ret_bool (by rw [HN.out]), HB.out⟩

/-- The region of that number. -/
def regOf (n : Nat) : Code → Option Code
  | .region i ops b => if i = n then some (.region i ops b) else none
  | .seq a b => (regOf n a).or (regOf n b)
  | .cond _ a b => (regOf n a).or (regOf n b)

  | _ => none
/-- Such a region walked once, in the order of the text, in a class of worlds. -/
theorem wp_region_quietC {P : Program} {id : Nat} {Q : Exit → Act → World → Prop} {a : Act} {w : World} {l : List Oper} (C : World → Prop) (hm : P.follows .mixedOrders = true) (hB : Region.lexB .any l.toArray = true) (hC : C w.drew)
    (h : wpQuiet P l.toArray C (fun a' => ∀ w', C w' → Q .normal a' w') l a) : (Code.region id l.toArray true).wp P Q a w :=
  wp_region_quiet (C := C) hm hB hC (by simpa using h)

theorem cq_val {C : World → Prop} {K : Value → Prop} {V : Value} (h : K V) : ∃ v, (∀ w, C w → V = v) ∧ K v := ⟨V, fun _ _ => rfl, h⟩
theorem cq_of {C : World → Prop} {K : Value → Prop} {R : World → Value → Prop} (V : Value) (h1 : ∀ w, C w → R w V) (h2 : K V) : ∃ v, (∀ w, C w → R w v) ∧ K v := ⟨V, h1, h2⟩
def PM1 (C : World → Prop) (w : World) (h : TH) (k : TF) (qa : Option Addr) (ca : Nat) (q : Option Addr) (cap : Nat) (p : ByteArray) (r : Bool) (e : Exit) (a : Act) (W : World) : Prop :=
  e = .normal ∧ C W ∧ ∃ u5 u6 u7 u8 u9 u10 u11 u12 u13 u14 u15 u16 u17 u18 u19 u20 u21 u22 u23 u24 u25 u26 u27 u28 u29 u30 u31 u32 u33 u34 u35 u36 u37 u38 u39 : Value, a = { tmps := #[.agg #[.int .u8 h.op, .string h.name, .string h.arg, .int .i64 h.n, .bool h.has, .int .u8 h.ah.op, .string h.ah.name, .int .i64 h.ah.n, .slice qa h.ak.len ca, .slice q k.len cap], .string p, .pointer (some ⟨w.heap.size, 0, none⟩), undef, .bool false, u5, u6, u7, u8, u9, u10, u11, u12, u13, u14, u15, u16, u17, u18, u19, u20, u21, u22, u23, u24, u25, u26, u27, u28, u29, u30, u31, u32, u33, u34, u35, u36, u37, u38, u39, .bool r, undef, undef, undef, undef, undef, undef, undef, undef, undef, undef, undef, undef, undef, undef, undef, undef, undef, undef, undef, undef, undef, undef, undef, undef, undef, undef, undef, undef, undef, undef, undef, undef, undef, undef, undef, undef, undef, undef, undef, undef, undef, undef, undef, undef, undef, undef, undef, undef, undef, undef, undef, undef, undef, undef, undef, undef, undef, undef, undef, undef, undef, undef, undef, undef, undef, undef, undef, undef, undef, undef, undef, undef, undef, undef, undef, undef, undef, undef, undef, undef, undef, undef, undef, undef, undef, undef, undef, undef, undef, undef, undef, undef, undef, undef], defers := [] }
def PM2 (C : World → Prop) (w : World) (h : TH) (k : TF) (qa : Option Addr) (ca : Nat) (q : Option Addr) (cap : Nat) (p : ByteArray) (r : Bool) (e : Exit) (a : Act) (W : World) : Prop :=
  e = .normal ∧ C W ∧ ∃ u5 u6 u7 u8 u9 u10 u11 u12 u13 u14 u15 u16 u17 u18 u19 u20 u21 u22 u23 u24 u25 u26 u27 u28 u29 u30 u31 u32 u33 u34 u35 u36 u37 u38 u39 u40 u41 u42 u43 u44 u45 u46 u47 u48 u49 u50 u51 u52 u53 u54 u55 u56 u57 u58 u59 u60 u61 u62 u63 u64 u65 : Value, a = { tmps := #[.agg #[.int .u8 h.op, .string h.name, .string h.arg, .int .i64 h.n, .bool h.has, .int .u8 h.ah.op, .string h.ah.name, .int .i64 h.ah.n, .slice qa h.ak.len ca, .slice q k.len cap], .string p, .pointer (some ⟨w.heap.size, 0, none⟩), undef, .bool false, u5, u6, u7, u8, u9, u10, u11, u12, u13, u14, u15, u16, u17, u18, u19, u20, u21, u22, u23, u24, u25, u26, u27, u28, u29, u30, u31, u32, u33, u34, u35, u36, u37, u38, u39, u40, u41, u42, u43, u44, u45, u46, u47, u48, u49, u50, u51, u52, u53, u54, u55, u56, u57, u58, u59, u60, u61, u62, u63, u64, u65, .bool r, undef, undef, undef, undef, undef, undef, undef, undef, undef, undef, undef, undef, undef, undef, undef, undef, undef, undef, undef, undef, undef, undef, undef, undef, undef, undef, undef, undef, undef, undef, undef, undef, undef, undef, undef, undef, undef, undef, undef, undef, undef, undef, undef, undef, undef, undef, undef, undef, undef, undef, undef, undef, undef, undef, undef, undef, undef, undef, undef, undef, undef, undef, undef, undef, undef, undef, undef, undef], defers := [] }
def PM3 (C : World → Prop) (w : World) (h : TH) (k : TF) (qa : Option Addr) (ca : Nat) (q : Option Addr) (cap : Nat) (p : ByteArray) (r : Bool) (e : Exit) (a : Act) (W : World) : Prop :=
  e = .normal ∧ C W ∧ ∃ u5 u6 u7 u8 u9 u10 u11 u12 u13 u14 u15 u16 u17 u18 u19 u20 u21 u22 u23 u24 u25 u26 u27 u28 u29 u30 u31 u32 u33 u34 u35 u36 u37 u38 u39 u40 u41 u42 u43 u44 u45 u46 u47 u48 u49 u50 u51 u52 u53 u54 u55 u56 u57 u58 u59 u60 u61 u62 u63 u64 u65 u66 u67 u68 u69 u70 u71 u72 u73 u74 u75 u76 u77 u78 u79 u80 u81 : Value, a = { tmps := #[.agg #[.int .u8 h.op, .string h.name, .string h.arg, .int .i64 h.n, .bool h.has, .int .u8 h.ah.op, .string h.ah.name, .int .i64 h.ah.n, .slice qa h.ak.len ca, .slice q k.len cap], .string p, .pointer (some ⟨w.heap.size, 0, none⟩), undef, .bool false, u5, u6, u7, u8, u9, u10, u11, u12, u13, u14, u15, u16, u17, u18, u19, u20, u21, u22, u23, u24, u25, u26, u27, u28, u29, u30, u31, u32, u33, u34, u35, u36, u37, u38, u39, u40, u41, u42, u43, u44, u45, u46, u47, u48, u49, u50, u51, u52, u53, u54, u55, u56, u57, u58, u59, u60, u61, u62, u63, u64, u65, u66, u67, u68, u69, u70, u71, u72, u73, u74, u75, u76, u77, u78, u79, u80, u81, .bool r, undef, undef, undef, undef, undef, undef, undef, undef, undef, undef, undef, undef, undef, undef, undef, undef, undef, undef, undef, undef, undef, undef, undef, undef, undef, undef, undef, undef, undef, undef, undef, undef, undef, undef, undef, undef, undef, undef, undef, undef, undef, undef, undef, undef, undef, undef, undef, undef, undef, undef, undef, undef], defers := [] }
def PM4 (C : World → Prop) (w : World) (h : TH) (k : TF) (qa : Option Addr) (ca : Nat) (q : Option Addr) (cap : Nat) (p : ByteArray) (r : Bool) (e : Exit) (a : Act) (W : World) : Prop :=
  e = .normal ∧ C W ∧ ∃ u5 u6 u7 u8 u9 u10 u11 u12 u13 u14 u15 u16 u17 u18 u19 u20 u21 u22 u23 u24 u25 u26 u27 u28 u29 u30 u31 u32 u33 u34 u35 u36 u37 u38 u39 u40 u41 u42 u43 u44 u45 u46 u47 u48 u49 u50 u51 u52 u53 u54 u55 u56 u57 u58 u59 u60 u61 u62 u63 u64 u65 u66 u67 u68 u69 u70 u71 u72 u73 u74 u75 u76 u77 u78 u79 u80 u81 u82 u83 u84 u85 u86 u87 u88 u89 u90 u91 u92 u93 u94 u95 u96 u97 u98 u99 u100 u101 u102 u103 u104 : Value, a = { tmps := #[.agg #[.int .u8 h.op, .string h.name, .string h.arg, .int .i64 h.n, .bool h.has, .int .u8 h.ah.op, .string h.ah.name, .int .i64 h.ah.n, .slice qa h.ak.len ca, .slice q k.len cap], .string p, .pointer (some ⟨w.heap.size, 0, none⟩), undef, .bool false, u5, u6, u7, u8, u9, u10, u11, u12, u13, u14, u15, u16, u17, u18, u19, u20, u21, u22, u23, u24, u25, u26, u27, u28, u29, u30, u31, u32, u33, u34, u35, u36, u37, u38, u39, u40, u41, u42, u43, u44, u45, u46, u47, u48, u49, u50, u51, u52, u53, u54, u55, u56, u57, u58, u59, u60, u61, u62, u63, u64, u65, u66, u67, u68, u69, u70, u71, u72, u73, u74, u75, u76, u77, u78, u79, u80, u81, u82, u83, u84, u85, u86, u87, u88, u89, u90, u91, u92, u93, u94, u95, u96, u97, u98, u99, u100, u101, u102, u103, u104, .bool r, undef, undef, undef, undef, undef, undef, undef, undef, undef, undef, undef, undef, undef, undef, undef, undef, undef, undef, undef, undef, undef, undef, undef, undef, undef, undef, undef, undef, undef], defers := [] }
set_option maxRecDepth 100000 in
set_option maxHeartbeats 8000000 in
theorem parts_r1 (h : TH) (k : TF) (qa : Option Addr) (ca : Nat) (q : Option Addr) (cap : Nat) (p : ByteArray) (w : World) (W : World) (x1 : W.cell? ⟨w.heap.size, 1, none⟩ = some (.string h.name))
    (o b1 b2 b3 b4 b5 b6 b7 : Bool) (H111 : Hid (∀ W, Calls Try.prog 103 #[.string p, .int .u8 111] W fun e w' => e = .returned (.bool o) ∧ W = w'))
    (hb1 : (h.name.toList == [43]) = b1) (hb2 : (h.name.toList == [45]) = b2) (hb3 : (h.name.toList == [42]) = b3) (hb4 : (h.name.toList == [47]) = b4) (hb5 : (h.name.toList == [37]) = b5) (hb6 : (h.name.toList == [60]) = b6) (hb7 : (h.name.toList == [61, 61]) = b7) :
    ∀ R, regOf 1 (Try.f77.body.getD .skip) = some R → R.wp Try.prog (PM1 (fun W' => ∃ n, W' = W.drewN n) w h k qa ca q cap p (o != (b1 || b2 || b3 || b4 || b5 || b6 || b7))) { tmps := #[.agg #[.int .u8 h.op, .string h.name, .string h.arg, .int .i64 h.n, .bool h.has, .int .u8 h.ah.op, .string h.ah.name, .int .i64 h.ah.n, .slice qa h.ak.len ca, .slice q k.len cap], .string p, .pointer (some ⟨w.heap.size, 0, none⟩), undef, .bool false, undef, undef, undef, undef, undef, undef, undef, undef, undef, undef, undef, undef, undef, undef, undef, undef, undef, undef, undef, undef, undef, undef, undef, undef, undef, undef, undef, undef, undef, undef, undef, undef, undef, undef, undef, undef, undef, undef, undef, undef, undef, undef, undef, undef, undef, undef, undef, undef, undef, undef, undef, undef, undef, undef, undef, undef, undef, undef, undef, undef, undef, undef, undef, undef, undef, undef, undef, undef, undef, undef, undef, undef, undef, undef, undef, undef, undef, undef, undef, undef, undef, undef, undef, undef, undef, undef, undef, undef, undef, undef, undef, undef, undef, undef, undef, undef, undef, undef, undef, undef, undef, undef, undef, undef, undef, undef, undef, undef, undef, undef, undef, undef, undef, undef, undef, undef, undef, undef, undef, undef, undef, undef, undef, undef, undef, undef, undef, undef, undef, undef], defers := [] } W := by
  rintro R hR
  have hR' := Option.some.inj ((show regOf 1 (Try.f77.body.getD .skip) = some _ from rfl).symm.trans hR)
  subst hR'
  clear hR
  dsimp only
  cases o
  · skip
    cases b1
    case true =>
      go_quiet ((go_at_call 103; exact Calls.quiet_of_same ((H111.out _).mono fun e w' h => ⟨h.1, h.2.symm⟩)))
      exact ⟨rfl, ⟨_, rfl⟩, _, _, _, _, _, _, _, _, _, _, _, _, _, _, _, _, _, _, _, _, _, _, _, _, _, _, _, _, _, _, _, _, _, _, _, rfl⟩
    cases b2
    case true =>
      go_quiet ((go_at_call 103; exact Calls.quiet_of_same ((H111.out _).mono fun e w' h => ⟨h.1, h.2.symm⟩)))
      exact ⟨rfl, ⟨_, rfl⟩, _, _, _, _, _, _, _, _, _, _, _, _, _, _, _, _, _, _, _, _, _, _, _, _, _, _, _, _, _, _, _, _, _, _, _, rfl⟩
    cases b3
    case true =>
      go_quiet ((go_at_call 103; exact Calls.quiet_of_same ((H111.out _).mono fun e w' h => ⟨h.1, h.2.symm⟩)))
      exact ⟨rfl, ⟨_, rfl⟩, _, _, _, _, _, _, _, _, _, _, _, _, _, _, _, _, _, _, _, _, _, _, _, _, _, _, _, _, _, _, _, _, _, _, _, rfl⟩
    cases b4
    case true =>
      go_quiet ((go_at_call 103; exact Calls.quiet_of_same ((H111.out _).mono fun e w' h => ⟨h.1, h.2.symm⟩)))
      exact ⟨rfl, ⟨_, rfl⟩, _, _, _, _, _, _, _, _, _, _, _, _, _, _, _, _, _, _, _, _, _, _, _, _, _, _, _, _, _, _, _, _, _, _, _, rfl⟩
    cases b5
    case true =>
      go_quiet ((go_at_call 103; exact Calls.quiet_of_same ((H111.out _).mono fun e w' h => ⟨h.1, h.2.symm⟩)))
      exact ⟨rfl, ⟨_, rfl⟩, _, _, _, _, _, _, _, _, _, _, _, _, _, _, _, _, _, _, _, _, _, _, _, _, _, _, _, _, _, _, _, _, _, _, _, rfl⟩
    cases b6
    case true =>
      go_quiet ((go_at_call 103; exact Calls.quiet_of_same ((H111.out _).mono fun e w' h => ⟨h.1, h.2.symm⟩)))
      exact ⟨rfl, ⟨_, rfl⟩, _, _, _, _, _, _, _, _, _, _, _, _, _, _, _, _, _, _, _, _, _, _, _, _, _, _, _, _, _, _, _, _, _, _, _, rfl⟩
    cases b7
    case true =>
      go_quiet ((go_at_call 103; exact Calls.quiet_of_same ((H111.out _).mono fun e w' h => ⟨h.1, h.2.symm⟩)))
      exact ⟨rfl, ⟨_, rfl⟩, _, _, _, _, _, _, _, _, _, _, _, _, _, _, _, _, _, _, _, _, _, _, _, _, _, _, _, _, _, _, _, _, _, _, _, rfl⟩
    go_quiet ((go_at_call 103; exact Calls.quiet_of_same ((H111.out _).mono fun e w' h => ⟨h.1, h.2.symm⟩)))
    exact ⟨rfl, ⟨_, rfl⟩, _, _, _, _, _, _, _, _, _, _, _, _, _, _, _, _, _, _, _, _, _, _, _, _, _, _, _, _, _, _, _, _, _, _, _, rfl⟩
  · skip
    cases b1
    case true =>
      go_quiet ((go_at_call 103; exact Calls.quiet_of_same ((H111.out _).mono fun e w' h => ⟨h.1, h.2.symm⟩)))
      exact ⟨rfl, ⟨_, rfl⟩, _, _, _, _, _, _, _, _, _, _, _, _, _, _, _, _, _, _, _, _, _, _, _, _, _, _, _, _, _, _, _, _, _, _, _, rfl⟩
    cases b2
    case true =>
      go_quiet ((go_at_call 103; exact Calls.quiet_of_same ((H111.out _).mono fun e w' h => ⟨h.1, h.2.symm⟩)))
      exact ⟨rfl, ⟨_, rfl⟩, _, _, _, _, _, _, _, _, _, _, _, _, _, _, _, _, _, _, _, _, _, _, _, _, _, _, _, _, _, _, _, _, _, _, _, rfl⟩
    cases b3
    case true =>
      go_quiet ((go_at_call 103; exact Calls.quiet_of_same ((H111.out _).mono fun e w' h => ⟨h.1, h.2.symm⟩)))
      exact ⟨rfl, ⟨_, rfl⟩, _, _, _, _, _, _, _, _, _, _, _, _, _, _, _, _, _, _, _, _, _, _, _, _, _, _, _, _, _, _, _, _, _, _, _, rfl⟩
    cases b4
    case true =>
      go_quiet ((go_at_call 103; exact Calls.quiet_of_same ((H111.out _).mono fun e w' h => ⟨h.1, h.2.symm⟩)))
      exact ⟨rfl, ⟨_, rfl⟩, _, _, _, _, _, _, _, _, _, _, _, _, _, _, _, _, _, _, _, _, _, _, _, _, _, _, _, _, _, _, _, _, _, _, _, rfl⟩
    cases b5
    case true =>
      go_quiet ((go_at_call 103; exact Calls.quiet_of_same ((H111.out _).mono fun e w' h => ⟨h.1, h.2.symm⟩)))
      exact ⟨rfl, ⟨_, rfl⟩, _, _, _, _, _, _, _, _, _, _, _, _, _, _, _, _, _, _, _, _, _, _, _, _, _, _, _, _, _, _, _, _, _, _, _, rfl⟩
    cases b6
    case true =>
      go_quiet ((go_at_call 103; exact Calls.quiet_of_same ((H111.out _).mono fun e w' h => ⟨h.1, h.2.symm⟩)))
      exact ⟨rfl, ⟨_, rfl⟩, _, _, _, _, _, _, _, _, _, _, _, _, _, _, _, _, _, _, _, _, _, _, _, _, _, _, _, _, _, _, _, _, _, _, _, rfl⟩
    cases b7
    case true =>
      go_quiet ((go_at_call 103; exact Calls.quiet_of_same ((H111.out _).mono fun e w' h => ⟨h.1, h.2.symm⟩)))
      exact ⟨rfl, ⟨_, rfl⟩, _, _, _, _, _, _, _, _, _, _, _, _, _, _, _, _, _, _, _, _, _, _, _, _, _, _, _, _, _, _, _, _, _, _, _, rfl⟩
    go_quiet ((go_at_call 103; exact Calls.quiet_of_same ((H111.out _).mono fun e w' h => ⟨h.1, h.2.symm⟩)))
    exact ⟨rfl, ⟨_, rfl⟩, _, _, _, _, _, _, _, _, _, _, _, _, _, _, _, _, _, _, _, _, _, _, _, _, _, _, _, _, _, _, _, _, _, _, _, rfl⟩

set_option maxRecDepth 100000 in
set_option maxHeartbeats 8000000 in
theorem parts_r3 (h : TH) (k : TF) (qa : Option Addr) (ca : Nat) (q : Option Addr) (cap : Nat) (p : ByteArray) (w : World) (C : World → Prop) (W : World) (hC : C W.drew)
    (HCEL : Hid (∀ W, C W → W.cell? ⟨w.heap.size, 1, none⟩ = some (.string h.name) ∧ W.cell? ⟨w.heap.size, 2, none⟩ = some (.string h.arg)))
    (o n wd em : Bool) (H111 : Hid (∀ W, Calls Try.prog 103 #[.string p, .int .u8 111] W fun e w' => e = .returned (.bool o) ∧ W = w'))
    (H110 : Hid (∀ W, Calls Try.prog 103 #[.string p, .int .u8 110] W fun e w' => e = .returned (.bool n) ∧ W = w'))
    (HW1 : Hid (∀ W, C W → Calls Try.prog 90 #[.string h.name] W fun e w' => e = .returned (.bool wd) ∧ C w'))
    (hem : (h.name.toList == []) = em) (u5 u6 u7 u8 u9 u10 u11 u12 u13 u14 u15 u16 u17 u18 u19 u20 u21 u22 u23 u24 u25 u26 u27 u28 u29 u30 u31 u32 u33 u34 u35 u36 u37 u38 u39 u40 : Value) :
    ∀ R, regOf 3 (Try.f77.body.getD .skip) = some R → R.wp Try.prog (PM2 C w h k qa ca q cap p (!o && (n != wd) || !o && !n && !em)) { tmps := #[.agg #[.int .u8 h.op, .string h.name, .string h.arg, .int .i64 h.n, .bool h.has, .int .u8 h.ah.op, .string h.ah.name, .int .i64 h.ah.n, .slice qa h.ak.len ca, .slice q k.len cap], .string p, .pointer (some ⟨w.heap.size, 0, none⟩), undef, .bool false, u5, u6, u7, u8, u9, u10, u11, u12, u13, u14, u15, u16, u17, u18, u19, u20, u21, u22, u23, u24, u25, u26, u27, u28, u29, u30, u31, u32, u33, u34, u35, u36, u37, u38, u39, u40, undef, undef, undef, undef, undef, undef, undef, undef, undef, undef, undef, undef, undef, undef, undef, undef, undef, undef, undef, undef, undef, undef, undef, undef, undef, undef, undef, undef, undef, undef, undef, undef, undef, undef, undef, undef, undef, undef, undef, undef, undef, undef, undef, undef, undef, undef, undef, undef, undef, undef, undef, undef, undef, undef, undef, undef, undef, undef, undef, undef, undef, undef, undef, undef, undef, undef, undef, undef, undef, undef, undef, undef, undef, undef, undef, undef, undef, undef, undef, undef, undef, undef, undef, undef, undef, undef, undef, undef, undef, undef, undef, undef, undef, undef], defers := [] } W := by
  rintro R hR
  have hR' := Option.some.inj ((show regOf 3 (Try.f77.body.getD .skip) = some _ from rfl).symm.trans hR)
  subst hR'
  clear hR
  cases o
  · cases n
    · cases wd
      · refine wp_region_quietC C (by kernel_rfl) (by kernel_rfl) hC ?_
        clear hC
        dsimp only
        repeat (first | go_big_quiet_skip | (go_big_quiet_want; go_big_quiet_op; first | go_big_quiet_on | (refine cq_val ?_; go_big_quiet_on) | (refine cq_of (.bool false) (fun W' hW' => ?_) ?_; (go_at_call 103; (with_reducible refine (H111.out _).mono ?_); rintro e w1 ⟨rfl, rfl⟩; exact ⟨rfl, hW'⟩); go_big_quiet_on) | (refine cq_of (.bool false) (fun W' hW' => ?_) ?_; (go_at_call 103; (with_reducible refine (H110.out _).mono ?_); rintro e w1 ⟨rfl, rfl⟩; exact ⟨rfl, hW'⟩); go_big_quiet_on) | (refine cq_of (.bool false) (fun W' hW' => ?_) ?_; (go_at_call 90; (with_reducible exact (HW1.out _ hW'))); go_big_quiet_on) | (refine cq_of (.string h.name) (fun W' hW' => ?_) ?_; (obtain ⟨x1, x2⟩ := HCEL.out _ hW'; rw [x1]; exact ⟨rfl, rfl⟩); go_big_quiet_on) | (refine cq_of (.string h.arg) (fun W' hW' => ?_) ?_; (obtain ⟨x1, x2⟩ := HCEL.out _ hW'; rw [x2]; exact ⟨rfl, rfl⟩); go_big_quiet_on)))
        refine wpQuiet_nil ?_
        intro W1 hW1
        refine ⟨rfl, hW1, _, _, _, _, _, _, _, _, _, _, _, _, _, _, _, _, _, _, _, _, _, _, _, _, _, _, _, _, _, _, _, _, _, _, _, _, _, _, _, _, _, _, _, _, _, _, _, _, _, _, _, _, _, _, _, _, _, _, _, _, _, rfl⟩
      · refine wp_region_quietC C (by kernel_rfl) (by kernel_rfl) hC ?_
        clear hC
        dsimp only
        repeat (first | go_big_quiet_skip | (go_big_quiet_want; go_big_quiet_op; first | go_big_quiet_on | (refine cq_val ?_; go_big_quiet_on) | (refine cq_of (.bool false) (fun W' hW' => ?_) ?_; (go_at_call 103; (with_reducible refine (H111.out _).mono ?_); rintro e w1 ⟨rfl, rfl⟩; exact ⟨rfl, hW'⟩); go_big_quiet_on) | (refine cq_of (.bool false) (fun W' hW' => ?_) ?_; (go_at_call 103; (with_reducible refine (H110.out _).mono ?_); rintro e w1 ⟨rfl, rfl⟩; exact ⟨rfl, hW'⟩); go_big_quiet_on) | (refine cq_of (.bool true) (fun W' hW' => ?_) ?_; (go_at_call 90; (with_reducible exact (HW1.out _ hW'))); go_big_quiet_on) | (refine cq_of (.string h.name) (fun W' hW' => ?_) ?_; (obtain ⟨x1, x2⟩ := HCEL.out _ hW'; rw [x1]; exact ⟨rfl, rfl⟩); go_big_quiet_on) | (refine cq_of (.string h.arg) (fun W' hW' => ?_) ?_; (obtain ⟨x1, x2⟩ := HCEL.out _ hW'; rw [x2]; exact ⟨rfl, rfl⟩); go_big_quiet_on)))
        refine wpQuiet_nil ?_
        intro W1 hW1
        refine ⟨rfl, hW1, _, _, _, _, _, _, _, _, _, _, _, _, _, _, _, _, _, _, _, _, _, _, _, _, _, _, _, _, _, _, _, _, _, _, _, _, _, _, _, _, _, _, _, _, _, _, _, _, _, _, _, _, _, _, _, _, _, _, _, _, _, rfl⟩
    · cases wd
      · refine wp_region_quietC C (by kernel_rfl) (by kernel_rfl) hC ?_
        clear hC
        dsimp only
        repeat (first | go_big_quiet_skip | (go_big_quiet_want; go_big_quiet_op; first | go_big_quiet_on | (refine cq_val ?_; go_big_quiet_on) | (refine cq_of (.bool false) (fun W' hW' => ?_) ?_; (go_at_call 103; (with_reducible refine (H111.out _).mono ?_); rintro e w1 ⟨rfl, rfl⟩; exact ⟨rfl, hW'⟩); go_big_quiet_on) | (refine cq_of (.bool true) (fun W' hW' => ?_) ?_; (go_at_call 103; (with_reducible refine (H110.out _).mono ?_); rintro e w1 ⟨rfl, rfl⟩; exact ⟨rfl, hW'⟩); go_big_quiet_on) | (refine cq_of (.bool false) (fun W' hW' => ?_) ?_; (go_at_call 90; (with_reducible exact (HW1.out _ hW'))); go_big_quiet_on) | (refine cq_of (.string h.name) (fun W' hW' => ?_) ?_; (obtain ⟨x1, x2⟩ := HCEL.out _ hW'; rw [x1]; exact ⟨rfl, rfl⟩); go_big_quiet_on) | (refine cq_of (.string h.arg) (fun W' hW' => ?_) ?_; (obtain ⟨x1, x2⟩ := HCEL.out _ hW'; rw [x2]; exact ⟨rfl, rfl⟩); go_big_quiet_on)))
        refine wpQuiet_nil ?_
        intro W1 hW1
        refine ⟨rfl, hW1, _, _, _, _, _, _, _, _, _, _, _, _, _, _, _, _, _, _, _, _, _, _, _, _, _, _, _, _, _, _, _, _, _, _, _, _, _, _, _, _, _, _, _, _, _, _, _, _, _, _, _, _, _, _, _, _, _, _, _, _, _, rfl⟩
      · refine wp_region_quietC C (by kernel_rfl) (by kernel_rfl) hC ?_
        clear hC
        dsimp only
        repeat (first | go_big_quiet_skip | (go_big_quiet_want; go_big_quiet_op; first | go_big_quiet_on | (refine cq_val ?_; go_big_quiet_on) | (refine cq_of (.bool false) (fun W' hW' => ?_) ?_; (go_at_call 103; (with_reducible refine (H111.out _).mono ?_); rintro e w1 ⟨rfl, rfl⟩; exact ⟨rfl, hW'⟩); go_big_quiet_on) | (refine cq_of (.bool true) (fun W' hW' => ?_) ?_; (go_at_call 103; (with_reducible refine (H110.out _).mono ?_); rintro e w1 ⟨rfl, rfl⟩; exact ⟨rfl, hW'⟩); go_big_quiet_on) | (refine cq_of (.bool true) (fun W' hW' => ?_) ?_; (go_at_call 90; (with_reducible exact (HW1.out _ hW'))); go_big_quiet_on) | (refine cq_of (.string h.name) (fun W' hW' => ?_) ?_; (obtain ⟨x1, x2⟩ := HCEL.out _ hW'; rw [x1]; exact ⟨rfl, rfl⟩); go_big_quiet_on) | (refine cq_of (.string h.arg) (fun W' hW' => ?_) ?_; (obtain ⟨x1, x2⟩ := HCEL.out _ hW'; rw [x2]; exact ⟨rfl, rfl⟩); go_big_quiet_on)))
        refine wpQuiet_nil ?_
        intro W1 hW1
        refine ⟨rfl, hW1, _, _, _, _, _, _, _, _, _, _, _, _, _, _, _, _, _, _, _, _, _, _, _, _, _, _, _, _, _, _, _, _, _, _, _, _, _, _, _, _, _, _, _, _, _, _, _, _, _, _, _, _, _, _, _, _, _, _, _, _, _, rfl⟩
  · refine wp_region_quietC C (by kernel_rfl) (by kernel_rfl) hC ?_
    clear hC
    dsimp only
    repeat (first | go_big_quiet_skip | (go_big_quiet_want; go_big_quiet_op; first | go_big_quiet_on | (refine cq_val ?_; go_big_quiet_on) | (refine cq_of (.bool true) (fun W' hW' => ?_) ?_; (go_at_call 103; (with_reducible refine (H111.out _).mono ?_); rintro e w1 ⟨rfl, rfl⟩; exact ⟨rfl, hW'⟩); go_big_quiet_on) | (refine cq_of (.bool n) (fun W' hW' => ?_) ?_; (go_at_call 103; (with_reducible refine (H110.out _).mono ?_); rintro e w1 ⟨rfl, rfl⟩; exact ⟨rfl, hW'⟩); go_big_quiet_on) | (refine cq_of (.bool wd) (fun W' hW' => ?_) ?_; (go_at_call 90; (with_reducible exact (HW1.out _ hW'))); go_big_quiet_on) | (refine cq_of (.string h.name) (fun W' hW' => ?_) ?_; (obtain ⟨x1, x2⟩ := HCEL.out _ hW'; rw [x1]; exact ⟨rfl, rfl⟩); go_big_quiet_on) | (refine cq_of (.string h.arg) (fun W' hW' => ?_) ?_; (obtain ⟨x1, x2⟩ := HCEL.out _ hW'; rw [x2]; exact ⟨rfl, rfl⟩); go_big_quiet_on)))
    refine wpQuiet_nil ?_
    intro W1 hW1
    refine ⟨rfl, hW1, _, _, _, _, _, _, _, _, _, _, _, _, _, _, _, _, _, _, _, _, _, _, _, _, _, _, _, _, _, _, _, _, _, _, _, _, _, _, _, _, _, _, _, _, _, _, _, _, _, _, _, _, _, _, _, _, _, _, _, _, _, rfl⟩

set_option maxRecDepth 100000 in
set_option maxHeartbeats 8000000 in
theorem parts_r5 (h : TH) (k : TF) (qa : Option Addr) (ca : Nat) (q : Option Addr) (cap : Nat) (p : ByteArray) (w : World) (C : World → Prop) (W : World) (hC : C W.drew)
    (HCEL : Hid (∀ W, C W → W.cell? ⟨w.heap.size, 1, none⟩ = some (.string h.name) ∧ W.cell? ⟨w.heap.size, 2, none⟩ = some (.string h.arg)))
    (c wa ea : Bool) (H97 : Hid (∀ W, Calls Try.prog 103 #[.string p, .int .u8 97] W fun e w' => e = .returned (.bool c) ∧ W = w'))
    (HW2 : Hid (∀ W, C W → Calls Try.prog 90 #[.string h.arg] W fun e w' => e = .returned (.bool wa) ∧ C w'))
    (hea : (h.arg.toList == []) = ea) (u5 u6 u7 u8 u9 u10 u11 u12 u13 u14 u15 u16 u17 u18 u19 u20 u21 u22 u23 u24 u25 u26 u27 u28 u29 u30 u31 u32 u33 u34 u35 u36 u37 u38 u39 u40 u41 u42 u43 u44 u45 u46 u47 u48 u49 u50 u51 u52 u53 u54 u55 u56 u57 u58 u59 u60 u61 u62 u63 u64 u65 u66 : Value) :
    ∀ R, regOf 5 (Try.f77.body.getD .skip) = some R → R.wp Try.prog (PM3 C w h k qa ca q cap p ((c != wa) || !c && !ea)) { tmps := #[.agg #[.int .u8 h.op, .string h.name, .string h.arg, .int .i64 h.n, .bool h.has, .int .u8 h.ah.op, .string h.ah.name, .int .i64 h.ah.n, .slice qa h.ak.len ca, .slice q k.len cap], .string p, .pointer (some ⟨w.heap.size, 0, none⟩), undef, .bool false, u5, u6, u7, u8, u9, u10, u11, u12, u13, u14, u15, u16, u17, u18, u19, u20, u21, u22, u23, u24, u25, u26, u27, u28, u29, u30, u31, u32, u33, u34, u35, u36, u37, u38, u39, u40, u41, u42, u43, u44, u45, u46, u47, u48, u49, u50, u51, u52, u53, u54, u55, u56, u57, u58, u59, u60, u61, u62, u63, u64, u65, u66, undef, undef, undef, undef, undef, undef, undef, undef, undef, undef, undef, undef, undef, undef, undef, undef, undef, undef, undef, undef, undef, undef, undef, undef, undef, undef, undef, undef, undef, undef, undef, undef, undef, undef, undef, undef, undef, undef, undef, undef, undef, undef, undef, undef, undef, undef, undef, undef, undef, undef, undef, undef, undef, undef, undef, undef, undef, undef, undef, undef, undef, undef, undef, undef, undef, undef, undef, undef], defers := [] } W := by
  rintro R hR
  have hR' := Option.some.inj ((show regOf 5 (Try.f77.body.getD .skip) = some _ from rfl).symm.trans hR)
  subst hR'
  clear hR
  cases c
  · cases wa
    · refine wp_region_quietC C (by kernel_rfl) (by kernel_rfl) hC ?_
      clear hC
      dsimp only
      repeat (first | go_big_quiet_skip | (go_big_quiet_want; go_big_quiet_op; first | go_big_quiet_on | (refine cq_val ?_; go_big_quiet_on) | (refine cq_of (.bool false) (fun W' hW' => ?_) ?_; (go_at_call 103; (with_reducible refine (H97.out _).mono ?_); rintro e w1 ⟨rfl, rfl⟩; exact ⟨rfl, hW'⟩); go_big_quiet_on) | (refine cq_of (.bool false) (fun W' hW' => ?_) ?_; (go_at_call 90; (with_reducible exact (HW2.out _ hW'))); go_big_quiet_on) | (refine cq_of (.string h.name) (fun W' hW' => ?_) ?_; (obtain ⟨x1, x2⟩ := HCEL.out _ hW'; rw [x1]; exact ⟨rfl, rfl⟩); go_big_quiet_on) | (refine cq_of (.string h.arg) (fun W' hW' => ?_) ?_; (obtain ⟨x1, x2⟩ := HCEL.out _ hW'; rw [x2]; exact ⟨rfl, rfl⟩); go_big_quiet_on)))
      refine wpQuiet_nil ?_
      intro W1 hW1
      refine ⟨rfl, hW1, _, _, _, _, _, _, _, _, _, _, _, _, _, _, _, _, _, _, _, _, _, _, _, _, _, _, _, _, _, _, _, _, _, _, _, _, _, _, _, _, _, _, _, _, _, _, _, _, _, _, _, _, _, _, _, _, _, _, _, _, _, _, _, _, _, _, _, _, _, _, _, _, _, _, _, _, _, rfl⟩
    · refine wp_region_quietC C (by kernel_rfl) (by kernel_rfl) hC ?_
      clear hC
      dsimp only
      repeat (first | go_big_quiet_skip | (go_big_quiet_want; go_big_quiet_op; first | go_big_quiet_on | (refine cq_val ?_; go_big_quiet_on) | (refine cq_of (.bool false) (fun W' hW' => ?_) ?_; (go_at_call 103; (with_reducible refine (H97.out _).mono ?_); rintro e w1 ⟨rfl, rfl⟩; exact ⟨rfl, hW'⟩); go_big_quiet_on) | (refine cq_of (.bool true) (fun W' hW' => ?_) ?_; (go_at_call 90; (with_reducible exact (HW2.out _ hW'))); go_big_quiet_on) | (refine cq_of (.string h.name) (fun W' hW' => ?_) ?_; (obtain ⟨x1, x2⟩ := HCEL.out _ hW'; rw [x1]; exact ⟨rfl, rfl⟩); go_big_quiet_on) | (refine cq_of (.string h.arg) (fun W' hW' => ?_) ?_; (obtain ⟨x1, x2⟩ := HCEL.out _ hW'; rw [x2]; exact ⟨rfl, rfl⟩); go_big_quiet_on)))
      refine wpQuiet_nil ?_
      intro W1 hW1
      refine ⟨rfl, hW1, _, _, _, _, _, _, _, _, _, _, _, _, _, _, _, _, _, _, _, _, _, _, _, _, _, _, _, _, _, _, _, _, _, _, _, _, _, _, _, _, _, _, _, _, _, _, _, _, _, _, _, _, _, _, _, _, _, _, _, _, _, _, _, _, _, _, _, _, _, _, _, _, _, _, _, _, _, rfl⟩
  · cases wa
    · refine wp_region_quietC C (by kernel_rfl) (by kernel_rfl) hC ?_
      clear hC
      dsimp only
      repeat (first | go_big_quiet_skip | (go_big_quiet_want; go_big_quiet_op; first | go_big_quiet_on | (refine cq_val ?_; go_big_quiet_on) | (refine cq_of (.bool true) (fun W' hW' => ?_) ?_; (go_at_call 103; (with_reducible refine (H97.out _).mono ?_); rintro e w1 ⟨rfl, rfl⟩; exact ⟨rfl, hW'⟩); go_big_quiet_on) | (refine cq_of (.bool false) (fun W' hW' => ?_) ?_; (go_at_call 90; (with_reducible exact (HW2.out _ hW'))); go_big_quiet_on) | (refine cq_of (.string h.name) (fun W' hW' => ?_) ?_; (obtain ⟨x1, x2⟩ := HCEL.out _ hW'; rw [x1]; exact ⟨rfl, rfl⟩); go_big_quiet_on) | (refine cq_of (.string h.arg) (fun W' hW' => ?_) ?_; (obtain ⟨x1, x2⟩ := HCEL.out _ hW'; rw [x2]; exact ⟨rfl, rfl⟩); go_big_quiet_on)))
      refine wpQuiet_nil ?_
      intro W1 hW1
      refine ⟨rfl, hW1, _, _, _, _, _, _, _, _, _, _, _, _, _, _, _, _, _, _, _, _, _, _, _, _, _, _, _, _, _, _, _, _, _, _, _, _, _, _, _, _, _, _, _, _, _, _, _, _, _, _, _, _, _, _, _, _, _, _, _, _, _, _, _, _, _, _, _, _, _, _, _, _, _, _, _, _, _, rfl⟩
    · refine wp_region_quietC C (by kernel_rfl) (by kernel_rfl) hC ?_
      clear hC
      dsimp only
      repeat (first | go_big_quiet_skip | (go_big_quiet_want; go_big_quiet_op; first | go_big_quiet_on | (refine cq_val ?_; go_big_quiet_on) | (refine cq_of (.bool true) (fun W' hW' => ?_) ?_; (go_at_call 103; (with_reducible refine (H97.out _).mono ?_); rintro e w1 ⟨rfl, rfl⟩; exact ⟨rfl, hW'⟩); go_big_quiet_on) | (refine cq_of (.bool true) (fun W' hW' => ?_) ?_; (go_at_call 90; (with_reducible exact (HW2.out _ hW'))); go_big_quiet_on) | (refine cq_of (.string h.name) (fun W' hW' => ?_) ?_; (obtain ⟨x1, x2⟩ := HCEL.out _ hW'; rw [x1]; exact ⟨rfl, rfl⟩); go_big_quiet_on) | (refine cq_of (.string h.arg) (fun W' hW' => ?_) ?_; (obtain ⟨x1, x2⟩ := HCEL.out _ hW'; rw [x2]; exact ⟨rfl, rfl⟩); go_big_quiet_on)))
      refine wpQuiet_nil ?_
      intro W1 hW1
      refine ⟨rfl, hW1, _, _, _, _, _, _, _, _, _, _, _, _, _, _, _, _, _, _, _, _, _, _, _, _, _, _, _, _, _, _, _, _, _, _, _, _, _, _, _, _, _, _, _, _, _, _, _, _, _, _, _, _, _, _, _, _, _, _, _, _, _, _, _, _, _, _, _, _, _, _, _, _, _, _, _, _, _, rfl⟩

set_option maxRecDepth 100000 in
set_option maxHeartbeats 8000000 in
theorem parts_r7 (h : TH) (k : TF) (qa : Option Addr) (ca : Nat) (q : Option Addr) (cap : Nat) (p : ByteArray) (w W0 : World) (i5 b8 : Bool) (H105 : Hid (∀ W, Calls Try.prog 103 #[.string p, .int .u8 105] W fun e w' => e = .returned (.bool i5) ∧ W = w'))
    (H98 : Hid (∀ W, Calls Try.prog 103 #[.string p, .int .u8 98] W fun e w' => e = .returned (.bool b8) ∧ W = w'))
    (W3 : World) (hb3 : Below W0.heap.size W0 W3) (x3 : W3.cell? ⟨w.heap.size, 3, none⟩ = some (.int .i64 h.n)) (u5 u6 u7 u8 u9 u10 u11 u12 u13 u14 u15 u16 u17 u18 u19 u20 u21 u22 u23 u24 u25 u26 u27 u28 u29 u30 u31 u32 u33 u34 u35 u36 u37 u38 u39 u40 u41 u42 u43 u44 u45 u46 u47 u48 u49 u50 u51 u52 u53 u54 u55 u56 u57 u58 u59 u60 u61 u62 u63 u64 u65 u66 u67 u68 u69 u70 u71 u72 u73 u74 u75 u76 u77 u78 u79 u80 u81 u82 : Value) (r7 : Bool) (hr7 : r7 = !(decide (0 ≤ h.n) && (decide (h.n ≤ 0) || i5 || (b8 && decide (h.n = 1))))) :
    ∀ R, regOf 7 (Try.f77.body.getD .skip) = some R → R.wp Try.prog (PM4 (fun W' => Below W0.heap.size W0 W') w h k qa ca q cap p r7) { tmps := #[.agg #[.int .u8 h.op, .string h.name, .string h.arg, .int .i64 h.n, .bool h.has, .int .u8 h.ah.op, .string h.ah.name, .int .i64 h.ah.n, .slice qa h.ak.len ca, .slice q k.len cap], .string p, .pointer (some ⟨w.heap.size, 0, none⟩), undef, .bool false, u5, u6, u7, u8, u9, u10, u11, u12, u13, u14, u15, u16, u17, u18, u19, u20, u21, u22, u23, u24, u25, u26, u27, u28, u29, u30, u31, u32, u33, u34, u35, u36, u37, u38, u39, u40, u41, u42, u43, u44, u45, u46, u47, u48, u49, u50, u51, u52, u53, u54, u55, u56, u57, u58, u59, u60, u61, u62, u63, u64, u65, u66, u67, u68, u69, u70, u71, u72, u73, u74, u75, u76, u77, u78, u79, u80, u81, u82, undef, undef, undef, undef, undef, undef, undef, undef, undef, undef, undef, undef, undef, undef, undef, undef, undef, undef, undef, undef, undef, undef, undef, undef, undef, undef, undef, undef, undef, undef, undef, undef, undef, undef, undef, undef, undef, undef, undef, undef, undef, undef, undef, undef, undef, undef, undef, undef, undef, undef, undef, undef], defers := [] } W3 := by
  rintro R hR
  have hR' := Option.some.inj ((show regOf 7 (Try.f77.body.getD .skip) = some _ from rfl).symm.trans hR)
  subst hR'
  clear hR
  have HB3 := Lib.hid hb3
  have HR7 := Lib.hid hr7
  clear hb3 hr7
  dsimp only
  rcases Int.lt_or_le h.n 0 with hneg | hge
  · have e7 : r7 = true := by rw [HR7.out, decide_eq_false (by omega)]; rfl
    subst e7
    clear HR7
    go_wp2
    exact ⟨rfl, HB3.out, _, _, _, _, _, _, _, _, _, _, _, _, _, _, _, _, _, _, _, _, _, _, _, _, _, _, _, _, _, _, _, _, _, _, _, _, _, _, _, _, _, _, _, _, _, _, _, _, _, _, _, _, _, _, _, _, _, _, _, _, _, _, _, _, _, _, _, _, _, _, _, _, _, _, _, _, _, _, _, _, _, _, _, _, _, _, _, _, _, _, _, _, _, _, _, _, _, _, _, _, rfl⟩
  have dn : decide (h.n < 0) = false := decide_eq_false (by omega)
  rcases Int.lt_or_le 0 h.n with hpos | hle
  · cases i5
    · cases b8
      · have e7 : r7 = true := by rw [HR7.out, decide_eq_false (show ¬ h.n ≤ 0 by omega)]; simp
        subst e7
        clear HR7
        go_wp2_with (first | (go_at_call 103; (with_reducible refine (H105.out _).mono ?_); rintro e w1 ⟨rfl, rfl⟩) | (go_at_call 103; (with_reducible refine (H98.out _).mono ?_); rintro e w1 ⟨rfl, rfl⟩))
        exact ⟨rfl, HB3.out, _, _, _, _, _, _, _, _, _, _, _, _, _, _, _, _, _, _, _, _, _, _, _, _, _, _, _, _, _, _, _, _, _, _, _, _, _, _, _, _, _, _, _, _, _, _, _, _, _, _, _, _, _, _, _, _, _, _, _, _, _, _, _, _, _, _, _, _, _, _, _, _, _, _, _, _, _, _, _, _, _, _, _, _, _, _, _, _, _, _, _, _, _, _, _, _, _, _, _, _, rfl⟩
      · by_cases h1 : h.n = 1
        · have e7 : r7 = false := by rw [HR7.out, h1]; rfl
          subst e7
          have h1' : (h.n == 1) = true := by simpa using h1
          clear HR7 h1
          go_wp2_with (first | (go_at_call 103; (with_reducible refine (H105.out _).mono ?_); rintro e w1 ⟨rfl, rfl⟩) | (go_at_call 103; (with_reducible refine (H98.out _).mono ?_); rintro e w1 ⟨rfl, rfl⟩))
          exact ⟨rfl, HB3.out, _, _, _, _, _, _, _, _, _, _, _, _, _, _, _, _, _, _, _, _, _, _, _, _, _, _, _, _, _, _, _, _, _, _, _, _, _, _, _, _, _, _, _, _, _, _, _, _, _, _, _, _, _, _, _, _, _, _, _, _, _, _, _, _, _, _, _, _, _, _, _, _, _, _, _, _, _, _, _, _, _, _, _, _, _, _, _, _, _, _, _, _, _, _, _, _, _, _, _, _, rfl⟩
        · have e7 : r7 = true := by rw [HR7.out, decide_eq_false (show ¬ h.n ≤ 0 by omega), decide_eq_false h1]; simp
          subst e7
          have h1' : (h.n == 1) = false := by simpa using h1
          clear HR7 h1
          go_wp2_with (first | (go_at_call 103; (with_reducible refine (H105.out _).mono ?_); rintro e w1 ⟨rfl, rfl⟩) | (go_at_call 103; (with_reducible refine (H98.out _).mono ?_); rintro e w1 ⟨rfl, rfl⟩))
          exact ⟨rfl, HB3.out, _, _, _, _, _, _, _, _, _, _, _, _, _, _, _, _, _, _, _, _, _, _, _, _, _, _, _, _, _, _, _, _, _, _, _, _, _, _, _, _, _, _, _, _, _, _, _, _, _, _, _, _, _, _, _, _, _, _, _, _, _, _, _, _, _, _, _, _, _, _, _, _, _, _, _, _, _, _, _, _, _, _, _, _, _, _, _, _, _, _, _, _, _, _, _, _, _, _, _, _, rfl⟩
    · have e7 : r7 = false := by rw [HR7.out, decide_eq_true hge]; simp
      subst e7
      clear HR7
      go_wp2_with (first | (go_at_call 103; (with_reducible refine (H105.out _).mono ?_); rintro e w1 ⟨rfl, rfl⟩) | (go_at_call 103; (with_reducible refine (H98.out _).mono ?_); rintro e w1 ⟨rfl, rfl⟩))
      exact ⟨rfl, HB3.out, _, _, _, _, _, _, _, _, _, _, _, _, _, _, _, _, _, _, _, _, _, _, _, _, _, _, _, _, _, _, _, _, _, _, _, _, _, _, _, _, _, _, _, _, _, _, _, _, _, _, _, _, _, _, _, _, _, _, _, _, _, _, _, _, _, _, _, _, _, _, _, _, _, _, _, _, _, _, _, _, _, _, _, _, _, _, _, _, _, _, _, _, _, _, _, _, _, _, _, _, rfl⟩
  · have e7 : r7 = false := by rw [HR7.out, decide_eq_true hge, decide_eq_true hle]; rfl
    subst e7
    clear HR7
    go_wp2
    exact ⟨rfl, HB3.out, _, _, _, _, _, _, _, _, _, _, _, _, _, _, _, _, _, _, _, _, _, _, _, _, _, _, _, _, _, _, _, _, _, _, _, _, _, _, _, _, _, _, _, _, _, _, _, _, _, _, _, _, _, _, _, _, _, _, _, _, _, _, _, _, _, _, _, _, _, _, _, _, _, _, _, _, _, _, _, _, _, _, _, _, _, _, _, _, _, _, _, _, _, _, _, _, _, _, _, _, rfl⟩
set_option maxRecDepth 100000 in
set_option maxHeartbeats 8000000 in
theorem tparts_any (h : TH) (k : TF) (qa : Option Addr) (ca : Nat) (q : Option Addr) (cap : Nat) (p : ByteArray) (w : World) (hh : h.ok) (ha : SlF w qa ca h.ak) (hsz : 1 + h.ak.size ≤ 1099511627776) (hp : p.size ≤ 9223372036854775807) :
    Calls Try.prog 77 #[.agg (tmV h qa ca q k.len cap), .string p] w fun e w' => e = .returned (.bool (partsR h p.toList)) ∧ Below w.heap.size w w' := by
  have hbx := below_box w (.cells (tmV h qa ca q k.len cap) 43)
  have hx0 := World.alloc_heap_new w (.cells (tmV h qa ca q k.len cap) 43)
  unfold tmV at hbx hx0 ⊢
  have HH := Lib.hid fun c W => thas_any p c W hp
  have H111 := Lib.hid fun W => HH.out 111 W
  have H110 := Lib.hid fun W => HH.out 110 W
  have H97 := Lib.hid fun W => HH.out 97 W
  have H105 := Lib.hid fun W => HH.out 105 W
  have H98 := Lib.hid fun W => HH.out 98 W
  have H84 := Lib.hid fun W => HH.out 84 W
  have H116 := Lib.hid fun W => HH.out 116 W
  have hnm := hh.name
  have har := hh.arg
  unfold maxLen at hnm har
  have HW1 : Hid (∀ W, Below (w.alloc (.cells #[.int .u8 h.op, .string h.name, .string h.arg, .int .i64 h.n, .bool h.has, .int .u8 h.ah.op, .string h.ah.name, .int .i64 h.ah.n, .slice qa h.ak.len ca, .slice q k.len cap] 43)).heap.size (w.alloc (.cells #[.int .u8 h.op, .string h.name, .string h.arg, .int .i64 h.n, .bool h.has, .int .u8 h.ah.op, .string h.ah.name, .int .i64 h.ah.n, .slice qa h.ak.len ca, .slice q k.len cap] 43)) W → Calls Try.prog 90 #[.string h.name] W fun e w' => e = .returned (.bool (wordL h.name.toList)) ∧ Below (w.alloc (.cells #[.int .u8 h.op, .string h.name, .string h.arg, .int .i64 h.n, .bool h.has, .int .u8 h.ah.op, .string h.ah.name, .int .i64 h.ah.n, .slice qa h.ak.len ca, .slice q k.len cap] 43)).heap.size (w.alloc (.cells #[.int .u8 h.op, .string h.name, .string h.arg, .int .i64 h.n, .bool h.has, .int .u8 h.ah.op, .string h.ah.name, .int .i64 h.ah.n, .slice qa h.ak.len ca, .slice q k.len cap] 43)) w') := Lib.hid fun W hb => (refWord_any h.name W hnm).mono fun e w1 hh => ⟨hh.1, below_go2 hb hh.2⟩
  have HW2 : Hid (∀ W, Below (w.alloc (.cells #[.int .u8 h.op, .string h.name, .string h.arg, .int .i64 h.n, .bool h.has, .int .u8 h.ah.op, .string h.ah.name, .int .i64 h.ah.n, .slice qa h.ak.len ca, .slice q k.len cap] 43)).heap.size (w.alloc (.cells #[.int .u8 h.op, .string h.name, .string h.arg, .int .i64 h.n, .bool h.has, .int .u8 h.ah.op, .string h.ah.name, .int .i64 h.ah.n, .slice qa h.ak.len ca, .slice q k.len cap] 43)) W → Calls Try.prog 90 #[.string h.arg] W fun e w' => e = .returned (.bool (wordL h.arg.toList)) ∧ Below (w.alloc (.cells #[.int .u8 h.op, .string h.name, .string h.arg, .int .i64 h.n, .bool h.has, .int .u8 h.ah.op, .string h.ah.name, .int .i64 h.ah.n, .slice qa h.ak.len ca, .slice q k.len cap] 43)).heap.size (w.alloc (.cells #[.int .u8 h.op, .string h.name, .string h.arg, .int .i64 h.n, .bool h.has, .int .u8 h.ah.op, .string h.ah.name, .int .i64 h.ah.n, .slice qa h.ak.len ca, .slice q k.len cap] 43)) w') := Lib.hid fun W hb => (refWord_any h.arg W har).mono fun e w1 hh => ⟨hh.1, below_go2 hb hh.2⟩
  have HZ : Hid (∀ W, Calls Try.prog 104 #[.agg #[.int .u8 h.ah.op, .string h.ah.name, .int .i64 h.ah.n, .slice qa h.ak.len ca]] W fun e w' => e = .returned (.bool (zeroB h.ah h.ak)) ∧ Below W.heap.size W w') := Lib.hid fun W => zero5_any h.ah h.ak qa ca W
  have HRT : Hid (∀ W, Below w.heap.size w W → Calls Try.prog 14 #[.agg #[.int .u8 h.ah.op, .string h.ah.name, .int .i64 h.ah.n, .slice qa h.ak.len ca]] W fun e w' => e = .returned (.bool (rightB h.ah h.ak 1)) ∧ Below W.heap.size W w') := Lib.hid fun W hb => refRight_any h.ah h.ak qa ca W hh.ah hh.ak hsz (ha.below hb)
  have HVR : Hid (rightB h.ah h.ak 1 = true → ∀ W, Below w.heap.size w W → Calls Try.prog 20 #[.agg #[.int .u8 h.ah.op, .string h.ah.name, .int .i64 h.ah.n, .slice qa h.ak.len ca]] W fun e w' => ∃ a2 c2, e = .returned (.slice a2 (varsT (canT h.ah h.ak)).length c2) ∧ Below W.heap.size W w') := Lib.hid fun hr W hb => by
    refine (refVars_any h.ah h.ak qa ca W 1 (sh1_right hr) (.inl rfl) hsz (ha.below hb)).mono ?_
    rintro e w'' ⟨v, h1, h2, h3⟩
    obtain ⟨a2, c2, rfl, h4⟩ := own_is h2
    exact ⟨a2, c2, h1, h3⟩
  have HBW : Hid (∀ W, Below (w.alloc (.cells #[.int .u8 h.op, .string h.name, .string h.arg, .int .i64 h.n, .bool h.has, .int .u8 h.ah.op, .string h.ah.name, .int .i64 h.ah.n, .slice qa h.ak.len ca, .slice q k.len cap] 43)).heap.size (w.alloc (.cells #[.int .u8 h.op, .string h.name, .string h.arg, .int .i64 h.n, .bool h.has, .int .u8 h.ah.op, .string h.ah.name, .int .i64 h.ah.n, .slice qa h.ak.len ca, .slice q k.len cap] 43)) W → Below w.heap.size w W) := Lib.hid fun W hb => below_go2 hbx hb
  have HCEL0 := Lib.hid fun W (hb : Below (w.alloc (.cells #[.int .u8 h.op, .string h.name, .string h.arg, .int .i64 h.n, .bool h.has, .int .u8 h.ah.op, .string h.ah.name, .int .i64 h.ah.n, .slice qa h.ak.len ca, .slice q k.len cap] 43)).heap.size (w.alloc (.cells #[.int .u8 h.op, .string h.name, .string h.arg, .int .i64 h.n, .bool h.has, .int .u8 h.ah.op, .string h.ah.name, .int .i64 h.ah.n, .slice qa h.ak.len ca, .slice q k.len cap] 43)) W) => row10 ((hb.block _ (by simp)).trans hx0)
  have HCEL : Hid (∀ W, Below (w.alloc (.cells #[.int .u8 h.op, .string h.name, .string h.arg, .int .i64 h.n, .bool h.has, .int .u8 h.ah.op, .string h.ah.name, .int .i64 h.ah.n, .slice qa h.ak.len ca, .slice q k.len cap] 43)).heap.size (w.alloc (.cells #[.int .u8 h.op, .string h.name, .string h.arg, .int .i64 h.n, .bool h.has, .int .u8 h.ah.op, .string h.ah.name, .int .i64 h.ah.n, .slice qa h.ak.len ca, .slice q k.len cap] 43)) W → W.cell? ⟨w.heap.size, 1, none⟩ = some (.string h.name) ∧ W.cell? ⟨w.heap.size, 2, none⟩ = some (.string h.arg)) := Lib.hid fun W hb => ⟨(HCEL0.out W hb).2.1, (HCEL0.out W hb).2.2.1⟩
  obtain ⟨b1, hb1⟩ : ∃ b, (h.name.toList == [43]) = b := ⟨_, rfl⟩
  obtain ⟨b2, hb2⟩ : ∃ b, (h.name.toList == [45]) = b := ⟨_, rfl⟩
  obtain ⟨b3, hb3⟩ : ∃ b, (h.name.toList == [42]) = b := ⟨_, rfl⟩
  obtain ⟨b4, hb4⟩ : ∃ b, (h.name.toList == [47]) = b := ⟨_, rfl⟩
  obtain ⟨b5, hb5⟩ : ∃ b, (h.name.toList == [37]) = b := ⟨_, rfl⟩
  obtain ⟨b6, hb6⟩ : ∃ b, (h.name.toList == [60]) = b := ⟨_, rfl⟩
  obtain ⟨b7, hb7⟩ : ∃ b, (h.name.toList == [61, 61]) = b := ⟨_, rfl⟩
  obtain ⟨em, hem⟩ : ∃ b, (h.name.toList == []) = b := ⟨_, rfl⟩
  obtain ⟨ea, hea⟩ : ∃ b, (h.arg.toList == []) = b := ⟨_, rfl⟩
  have HSG : signB h.name = (b1 || b2 || b3 || b4 || b5 || b6 || b7) := by unfold signB; rw [← hb1, ← hb2, ← hb3, ← hb4, ← hb5, ← hb6, ← hb7]; simp only [str_eq2]
  have e1 : decide (h.name = ⟨#[]⟩) = em := by rw [← hem, str_eq2]
  have e2 : decide (h.arg = ⟨#[]⟩) = ea := by rw [← hea, str_eq2]
  have HP : Hid (partsR h p.toList = ((hasL p.toList 111 == (b1 || b2 || b3 || b4 || b5 || b6 || b7)) && (hasL p.toList 111 || (hasL p.toList 110 == wordL h.name.toList)) && (hasL p.toList 111 || hasL p.toList 110 || em) &&
      (hasL p.toList 97 == wordL h.arg.toList) && (hasL p.toList 97 || ea) && decide (0 ≤ h.n) && (decide (h.n ≤ 0) || hasL p.toList 105 || (hasL p.toList 98 && decide (h.n = 1))) && annR h p.toList)) := Lib.hid (by unfold partsR; rw [HSG, e1, e2])
  have HAN : Hid (annR h p.toList = if h.has then (hasL p.toList 84 || hasL p.toList 116) && (rightB h.ah h.ak 1 && decide ((varsT (canT h.ah h.ak)).length = 0)) else !hasL p.toList 84 && zeroB h.ah h.ak) := Lib.hid rfl
  clear HSG e1 e2 hnm har hh ha hsz hp HH
  generalize annR h p.toList = an at *
  generalize partsR h p.toList = r at *
  generalize hasL p.toList 111 = o at *
  generalize hasL p.toList 110 = n at *
  generalize hasL p.toList 97 = c at *
  generalize hasL p.toList 105 = i5 at *
  generalize hasL p.toList 98 = b8 at *
  generalize hasL p.toList 84 = tT at *
  generalize hasL p.toList 116 = tt at *
  generalize wordL h.name.toList = wd at *
  generalize wordL h.arg.toList = wa at *
  generalize rightB h.ah h.ak 1 = rr at *
  generalize (varsT (canT h.ah h.ak)).length = vl at *
  generalize zeroB h.ah h.ak = zz at *
  have x1 : (w.alloc (.cells #[.int .u8 h.op, .string h.name, .string h.arg, .int .i64 h.n, .bool h.has, .int .u8 h.ah.op, .string h.ah.name, .int .i64 h.ah.n, .slice qa h.ak.len ca, .slice q k.len cap] 43)).cell? ⟨w.heap.size, 1, none⟩ = some (.string h.name) := (HCEL.out _ (Below.refl _ _)).1
  have R1 := Lib.hid (parts_r1 h k qa ca q cap p w (w.alloc (.cells #[.int .u8 h.op, .string h.name, .string h.arg, .int .i64 h.n, .bool h.has, .int .u8 h.ah.op, .string h.ah.name, .int .i64 h.ah.n, .slice qa h.ak.len ca, .slice q k.len cap] 43)) x1 o b1 b2 b3 b4 b5 b6 b7 H111 hb1 hb2 hb3 hb4 hb5 hb6 hb7)
  have R3 := Lib.hid fun W (hC : Below (w.alloc (.cells #[.int .u8 h.op, .string h.name, .string h.arg, .int .i64 h.n, .bool h.has, .int .u8 h.ah.op, .string h.ah.name, .int .i64 h.ah.n, .slice qa h.ak.len ca, .slice q k.len cap] 43)).heap.size (w.alloc (.cells #[.int .u8 h.op, .string h.name, .string h.arg, .int .i64 h.n, .bool h.has, .int .u8 h.ah.op, .string h.ah.name, .int .i64 h.ah.n, .slice qa h.ak.len ca, .slice q k.len cap] 43)) W) => parts_r3 h k qa ca q cap p w (fun W' => Below (w.alloc (.cells #[.int .u8 h.op, .string h.name, .string h.arg, .int .i64 h.n, .bool h.has, .int .u8 h.ah.op, .string h.ah.name, .int .i64 h.ah.n, .slice qa h.ak.len ca, .slice q k.len cap] 43)).heap.size (w.alloc (.cells #[.int .u8 h.op, .string h.name, .string h.arg, .int .i64 h.n, .bool h.has, .int .u8 h.ah.op, .string h.ah.name, .int .i64 h.ah.n, .slice qa h.ak.len ca, .slice q k.len cap] 43)) W') W hC.drew HCEL o n wd em H111 H110 HW1 hem
  have R7 := Lib.hid fun W (hC : Below (w.alloc (.cells #[.int .u8 h.op, .string h.name, .string h.arg, .int .i64 h.n, .bool h.has, .int .u8 h.ah.op, .string h.ah.name, .int .i64 h.ah.n, .slice qa h.ak.len ca, .slice q k.len cap] 43)).heap.size (w.alloc (.cells #[.int .u8 h.op, .string h.name, .string h.arg, .int .i64 h.n, .bool h.has, .int .u8 h.ah.op, .string h.ah.name, .int .i64 h.ah.n, .slice qa h.ak.len ca, .slice q k.len cap] 43)) W) => parts_r7 h k qa ca q cap p w (w.alloc (.cells #[.int .u8 h.op, .string h.name, .string h.arg, .int .i64 h.n, .bool h.has, .int .u8 h.ah.op, .string h.ah.name, .int .i64 h.ah.n, .slice qa h.ak.len ca, .slice q k.len cap] 43)) i5 b8 H105 H98 W hC (HCEL0.out W hC).2.2.2.1
  have R5 := Lib.hid fun W (hC : Below (w.alloc (.cells #[.int .u8 h.op, .string h.name, .string h.arg, .int .i64 h.n, .bool h.has, .int .u8 h.ah.op, .string h.ah.name, .int .i64 h.ah.n, .slice qa h.ak.len ca, .slice q k.len cap] 43)).heap.size (w.alloc (.cells #[.int .u8 h.op, .string h.name, .string h.arg, .int .i64 h.n, .bool h.has, .int .u8 h.ah.op, .string h.ah.name, .int .i64 h.ah.n, .slice qa h.ak.len ca, .slice q k.len cap] 43)) W) => parts_r5 h k qa ca q cap p w (fun W' => Below (w.alloc (.cells #[.int .u8 h.op, .string h.name, .string h.arg, .int .i64 h.n, .bool h.has, .int .u8 h.ah.op, .string h.ah.name, .int .i64 h.ah.n, .slice qa h.ak.len ca, .slice q k.len cap] 43)).heap.size (w.alloc (.cells #[.int .u8 h.op, .string h.name, .string h.arg, .int .i64 h.n, .bool h.has, .int .u8 h.ah.op, .string h.ah.name, .int .i64 h.ah.n, .slice qa h.ak.len ca, .slice q k.len cap] 43)) W') W hC.drew HCEL c wa ea H97 HW2 hea
  clear x1 hb1 hb2 hb3 hb4 hb5 hb6 hb7 hem hea hbx hx0 HCEL H111 H110 H97 HW1 HW2
  generalize (b1 || b2 || b3 || b4 || b5 || b6 || b7) = sg at *
  go_enter Try.func77, Try.ntmps77
  go_wp2
  refine Code.wp_mono (Q := PM1 (fun W' => ∃ n, W' = ((w.alloc (.cells #[.int .u8 h.op, .string h.name, .string h.arg, .int .i64 h.n, .bool h.has, .int .u8 h.ah.op, .string h.ah.name, .int .i64 h.ah.n, .slice qa h.ak.len ca, .slice q k.len cap] 43))).drewN n) w h k qa ca q cap p (o != sg)) ?_ (R1.out _ rfl)
  rintro e a W ⟨rfl, hCW, u5, u6, u7, u8, u9, u10, u11, u12, u13, u14, u15, u16, u17, u18, u19, u20, u21, u22, u23, u24, u25, u26, u27, u28, u29, u30, u31, u32, u33, u34, u35, u36, u37, u38, u39, rfl⟩
  have HB := Lib.hid (show Below (w.alloc (.cells #[.int .u8 h.op, .string h.name, .string h.arg, .int .i64 h.n, .bool h.has, .int .u8 h.ah.op, .string h.ah.name, .int .i64 h.ah.n, .slice qa h.ak.len ca, .slice q k.len cap] 43)).heap.size (w.alloc (.cells #[.int .u8 h.op, .string h.name, .string h.arg, .int .i64 h.n, .bool h.has, .int .u8 h.ah.op, .string h.ah.name, .int .i64 h.ah.n, .slice qa h.ak.len ca, .slice q k.len cap] 43)) W by obtain ⟨nq, rfl⟩ := hCW; exact below_drewN (Below.refl _ _) nq)
  clear hCW R1
  generalize (w.alloc (.cells #[.int .u8 h.op, .string h.name, .string h.arg, .int .i64 h.n, .bool h.has, .int .u8 h.ah.op, .string h.ah.name, .int .i64 h.ah.n, .slice qa h.ak.len ca, .slice q k.len cap] 43)) = W0 at *
  dsimp only
  generalize hr1 : (o != sg) = r1 at *
  cases r1
  case true =>
    have HF : Hid (r = false) := Lib.hid (by rw [HP.out]; revert hr1; cases o <;> cases sg <;> simp)
    clear hr1
    go_wp2
    go_ret
    exact ⟨ret_bool HF.out.symm, HBW.out _ HB.out⟩
  have HP1 : Hid (r = ((o || (n == wd)) && (o || n || em) && (c == wa) && (c || ea) && decide (0 ≤ h.n) && (decide (h.n ≤ 0) || i5 || (b8 && decide (h.n = 1))) && an)) := Lib.hid (by rw [HP.out]; revert hr1; cases o <;> cases sg <;> simp)
  clear hr1 HP
  go_wp2
  refine Code.wp_mono (Q := PM2 (fun W' => Below W0.heap.size W0 W') w h k qa ca q cap p (!o && (n != wd) || !o && !n && !em)) ?_ (R3.out W HB.out u5 u6 u7 u8 u9 u10 u11 u12 u13 u14 u15 u16 u17 u18 u19 u20 u21 u22 u23 u24 u25 u26 u27 u28 u29 u30 u31 u32 u33 u34 u35 u36 u37 u38 u39 _ _ rfl)
  rintro e a W2 ⟨rfl, hCW, u5, u6, u7, u8, u9, u10, u11, u12, u13, u14, u15, u16, u17, u18, u19, u20, u21, u22, u23, u24, u25, u26, u27, u28, u29, u30, u31, u32, u33, u34, u35, u36, u37, u38, u39, u40, u41, u42, u43, u44, u45, u46, u47, u48, u49, u50, u51, u52, u53, u54, u55, u56, u57, u58, u59, u60, u61, u62, u63, u64, u65, rfl⟩
  have HB2 := Lib.hid hCW
  clear hCW R3
  dsimp only
  generalize hr1 : (!o && (n != wd) || !o && !n && !em) = r1 at *
  cases r1
  case true =>
    have HF : Hid (r = false) := Lib.hid (by rw [HP1.out]; revert hr1; cases o <;> cases n <;> cases wd <;> cases em <;> simp)
    clear hr1
    go_wp2
    go_ret
    exact ⟨ret_bool HF.out.symm, HBW.out _ HB2.out⟩
  have HP2 : Hid (r = ((c == wa) && (c || ea) && decide (0 ≤ h.n) && (decide (h.n ≤ 0) || i5 || (b8 && decide (h.n = 1))) && an)) := Lib.hid (by rw [HP1.out]; revert hr1; cases o <;> cases n <;> cases wd <;> cases em <;> simp)
  clear hr1 HP1
  go_wp2
  refine Code.wp_mono (Q := PM3 (fun W' => Below W0.heap.size W0 W') w h k qa ca q cap p ((c != wa) || !c && !ea)) ?_ (R5.out W2 HB2.out u5 u6 u7 u8 u9 u10 u11 u12 u13 u14 u15 u16 u17 u18 u19 u20 u21 u22 u23 u24 u25 u26 u27 u28 u29 u30 u31 u32 u33 u34 u35 u36 u37 u38 u39 u40 u41 u42 u43 u44 u45 u46 u47 u48 u49 u50 u51 u52 u53 u54 u55 u56 u57 u58 u59 u60 u61 u62 u63 u64 u65 _ _ rfl)
  rintro e a W3 ⟨rfl, hCW, u5, u6, u7, u8, u9, u10, u11, u12, u13, u14, u15, u16, u17, u18, u19, u20, u21, u22, u23, u24, u25, u26, u27, u28, u29, u30, u31, u32, u33, u34, u35, u36, u37, u38, u39, u40, u41, u42, u43, u44, u45, u46, u47, u48, u49, u50, u51, u52, u53, u54, u55, u56, u57, u58, u59, u60, u61, u62, u63, u64, u65, u66, u67, u68, u69, u70, u71, u72, u73, u74, u75, u76, u77, u78, u79, u80, u81, rfl⟩
  have HB3 := Lib.hid hCW
  clear hCW R5
  dsimp only
  generalize hr1 : ((c != wa) || !c && !ea) = r1 at *
  cases r1
  case true =>
    have HF : Hid (r = false) := Lib.hid (by rw [HP2.out]; revert hr1; cases c <;> cases wa <;> cases ea <;> simp)
    clear hr1
    go_wp2
    go_ret
    exact ⟨ret_bool HF.out.symm, HBW.out _ HB3.out⟩
  have HP3 : Hid (r = (decide (0 ≤ h.n) && (decide (h.n ≤ 0) || i5 || (b8 && decide (h.n = 1))) && an)) := Lib.hid (by rw [HP2.out]; revert hr1; cases c <;> cases wa <;> cases ea <;> simp)
  clear hr1 HP2
  obtain ⟨x0, x1, x2, x3, x4, x5, x6, x7, x8, x9⟩ := HCEL0.out _ HB3.out
  obtain ⟨r7, hr7⟩ : ∃ r7, r7 = !(decide (0 ≤ h.n) && (decide (h.n ≤ 0) || i5 || (b8 && decide (h.n = 1)))) := ⟨_, rfl⟩
  have HR7 := Lib.hid hr7
  clear hr7
  go_upto_region 7 with (fail)
  refine Code.wp_mono (Q := PM4 (fun W' => Below W0.heap.size W0 W') w h k qa ca q cap p r7) ?_ ?_
  · rintro e a W4 ⟨rfl, hCW, u5, u6, u7, u8, u9, u10, u11, u12, u13, u14, u15, u16, u17, u18, u19, u20, u21, u22, u23, u24, u25, u26, u27, u28, u29, u30, u31, u32, u33, u34, u35, u36, u37, u38, u39, u40, u41, u42, u43, u44, u45, u46, u47, u48, u49, u50, u51, u52, u53, u54, u55, u56, u57, u58, u59, u60, u61, u62, u63, u64, u65, u66, u67, u68, u69, u70, u71, u72, u73, u74, u75, u76, u77, u78, u79, u80, u81, u82, u83, u84, u85, u86, u87, u88, u89, u90, u91, u92, u93, u94, u95, u96, u97, u98, u99, u100, u101, u102, u103, u104, rfl⟩
    have HB4 := Lib.hid hCW
    clear hCW x0 x1 x2 x3 x4 x5 x6 x7 x8 x9
    dsimp only
    obtain ⟨x0, x1, x2, x3, x4, x5, x6, x7, x8, x9⟩ := HCEL0.out _ HB4.out
    cases r7
    case true =>
      have HF : Hid (r = false) := Lib.hid (by have := HR7.out; rw [HP3.out]; revert this; generalize (decide (0 ≤ h.n) && (decide (h.n ≤ 0) || i5 || (b8 && decide (h.n = 1)))) = z; cases z <;> simp)
      go_wp2
      go_ret
      exact ⟨ret_bool HF.out.symm, HBW.out _ HB4.out⟩
    have HF : Hid (r = an) := Lib.hid (by have := HR7.out; rw [HP3.out]; revert this; generalize (decide (0 ≤ h.n) && (decide (h.n ≤ 0) || i5 || (b8 && decide (h.n = 1)))) = z; cases z <;> simp)
    clear HR7 HP3
    generalize h.has = hs at *
    cases hs
    · cases tT
      · have HG : Hid (r = zz) := Lib.hid (by rw [HF.out, HAN.out]; simp)
        go_wp2_with (first | (go_at_call 103; (with_reducible refine (H84.out _).mono ?_); rintro e w1 ⟨rfl, rfl⟩) | (go_at_call 104; (with_reducible refine (HZ.out _).mono ?_); rintro e w5 ⟨rfl, hb5⟩))
        go_ret
        exact ⟨ret_bool HG.out.symm, below_go2 (HBW.out _ HB4.out) hb5⟩
      · have HG : Hid (r = false) := Lib.hid (by rw [HF.out, HAN.out]; simp)
        go_wp2_with (go_at_call 103; (with_reducible refine (H84.out _).mono ?_); rintro e w1 ⟨rfl, rfl⟩)
        go_ret
        exact ⟨ret_bool HG.out.symm, HBW.out _ HB4.out⟩
    · have hTt : (tT || tt) = false ∨ ((tT || tt) = true ∧ rr = false) ∨ ((tT || tt) = true ∧ rr = true) := by cases tT <;> cases tt <;> cases rr <;> simp
      rcases hTt with hT | ⟨hT, rfl⟩ | ⟨hT, rfl⟩
      · have HG : Hid (r = false) := Lib.hid (by rw [HF.out, HAN.out]; simp [hT])
        obtain ⟨rfl, rfl⟩ : tT = false ∧ tt = false := by cases tT <;> cases tt <;> simp_all
        clear hT
        go_wp2_with (first | (go_at_call 103; (with_reducible refine (H84.out _).mono ?_); rintro e w1 ⟨rfl, rfl⟩) | (go_at_call 103; (with_reducible refine (H116.out _).mono ?_); rintro e w1 ⟨rfl, rfl⟩))
        go_ret
        exact ⟨ret_bool HG.out.symm, HBW.out _ HB4.out⟩
      · have HG : Hid (r = false) := Lib.hid (by rw [HF.out, HAN.out]; simp)
        obtain hc | ⟨hc, hc2⟩ : tT = true ∨ (tT = false ∧ tt = true) := by cases tT <;> cases tt <;> simp_all
        all_goals
          (try subst hc2)
          subst hc
          clear hT
          go_wp2_with (first | (go_at_call 103; (with_reducible refine (H84.out _).mono ?_); rintro e w1 ⟨rfl, rfl⟩) | (go_at_call 103; (with_reducible refine (H116.out _).mono ?_); rintro e w1 ⟨rfl, rfl⟩) | (go_at_call 14; (with_reducible refine (HRT.out _ (HBW.out _ HB4.out)).mono ?_); rintro e w5 ⟨rfl, hb5⟩))
          go_ret
          exact ⟨ret_bool HG.out.symm, below_go2 (HBW.out _ HB4.out) hb5⟩
      · have HG : Hid (r = ((vl : Int) == 0)) := Lib.hid (by rw [HF.out, HAN.out, hT]; rw [Bool.eq_iff_iff]; simp)
        have HV2 := Lib.hid (HVR.out rfl)
        have hz5 : ∀ W5, Below W4.heap.size W4 W5 → W5.cell? ⟨w.heap.size, 5, none⟩ = some (.int .u8 h.ah.op) ∧ W5.cell? ⟨w.heap.size, 6, none⟩ = some (.string h.ah.name) ∧ W5.cell? ⟨w.heap.size, 7, none⟩ = some (.int .i64 h.ah.n) ∧ W5.cell? ⟨w.heap.size, 8, none⟩ = some (.slice qa h.ak.len ca) := fun W5 hb => by
          have g : w.heap.size < W4.heap.size := World.block_lt_of_cell? W4 _ x5
          exact ⟨(hb.cell (p := ⟨w.heap.size, 5, none⟩) g).trans x5, (hb.cell (p := ⟨w.heap.size, 6, none⟩) g).trans x6, (hb.cell (p := ⟨w.heap.size, 7, none⟩) g).trans x7, (hb.cell (p := ⟨w.heap.size, 8, none⟩) g).trans x8⟩
        have HZ5 := Lib.hid hz5
        obtain hc | ⟨hc, hc2⟩ : tT = true ∨ (tT = false ∧ tt = true) := by cases tT <;> cases tt <;> simp_all
        all_goals
          (try subst hc2)
          subst hc
          clear hT hz5
          go_wp2_with (first | (go_at_call 103; (with_reducible refine (H84.out _).mono ?_); rintro e w1 ⟨rfl, rfl⟩) | (go_at_call 103; (with_reducible refine (H116.out _).mono ?_); rintro e w1 ⟨rfl, rfl⟩) | (go_at_call 14; (with_reducible refine (HRT.out _ (HBW.out _ HB4.out)).mono ?_); rintro e w5 ⟨rfl, hb5⟩; obtain ⟨y5, y6, y7, y8⟩ := HZ5.out _ hb5; have HB5 := Lib.hid (below_go2 (HBW.out _ HB4.out) hb5); clear hb5) | (go_at_call 20; (with_reducible refine (HV2.out _ HB5.out).mono ?_); rintro e w6 ⟨a2, c2, rfl, hb6⟩))
          go_ret
          exact ⟨ret_bool HG.out.symm, below_go2 HB5.out hb6⟩
  · exact R7.out W3 HB3.out u5 u6 u7 u8 u9 u10 u11 u12 u13 u14 u15 u16 u17 u18 u19 u20 u21 u22 u23 u24 u25 u26 u27 u28 u29 u30 u31 u32 u33 u34 u35 u36 u37 u38 u39 u40 u41 u42 u43 u44 u45 u46 u47 u48 u49 u50 u51 u52 u53 u54 u55 u56 u57 u58 u59 u60 u61 u62 u63 u64 u65 u66 u67 u68 u69 u70 u71 u72 u73 u74 u75 u76 u77 u78 u79 u80 u81 _ r7 HR7.out _ rfl
end Go.Proofs.Ytcjhgefkbnbmnaa
