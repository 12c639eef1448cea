/- Parts of a type: sorts, Kids, what fits. -/
import Derived.Test.YtmjijmkdeblefaaKdM
import Derived.Test.YtmjijmkdeblefaaLxC
import Derived.WalkKit
import Derived.ProofKit
import Derived.Outline
import Derived.IntWalk
namespace Go.Proofs.Ytmjijmkdeblefaa
open Go.RowKit LM
set_option linter.unusedVariables false

theorem sortO_0 {op : Int} (h : ¬ (1 ≤ op ∧ op ≤ 11)) : sortO op = 0 := by unfold sortO; rw [if_neg (by omega), if_neg (by omega)]
theorem sortO_1 {op : Int} (h : 1 ≤ op) (h2 : op ≤ 7) : sortO op = 1 := by unfold sortO; rw [if_pos ⟨h, h2⟩]
theorem sortO_2 {op : Int} (h : 8 ≤ op) (h2 : op ≤ 11) : sortO op = 2 := by unfold sortO; rw [if_neg (by omega), if_pos ⟨h, h2⟩]
theorem sortO_le (op : Int) : sortO op ≤ 2 := by unfold sortO; split <;> (try split) <;> omega

theorem ksort_any (op : Int) (w : World) (h0 : 0 ≤ op) (h1 : op ≤ 255) :
    Calls Try.prog 70 #[.int .u8 op] w fun e w' => e = .returned (.int .u8 (sortO op)) ∧ w = w' := by
  have H0 := Lib.hid (@sortO_0 op)
  have H1 := Lib.hid (@sortO_1 op)
  have H2 := Lib.hid (@sortO_2 op)
  generalize sortO op = s at *
  go_enter Try.func70, Try.ntmps70
  go_wp2
  all_goals (go_ret; refine ⟨ret_int ?_, rfl⟩)
  all_goals (simp only [beq_iff_eq, beq_eq_false_iff_ne, ne_eq] at *)
  all_goals first
    | (rw [H1.out (by omega) (by omega)]; rfl)
    | (rw [H2.out (by omega) (by omega)]; rfl)
    | (rw [H0.out (by omega)]; rfl)

theorem isVar_any (op : Int) (w : World) (h0 : 0 ≤ op) (h1 : op ≤ 255) :
    Calls Try.prog 58 #[.int .u8 op] w fun e w' => e = .returned (.bool (isVarB op)) ∧ w = w' := by
  have H : Hid (isVarB op = (decide (op = 7) || decide (op = 10))) := Lib.hid rfl
  generalize isVarB op = s at *
  by_cases h7 : op = 7
  · subst h7
    go_enter Try.func58, Try.ntmps58
    go_wp2
    go_ret
    exact ⟨ret_bool (by rw [H.out]; rfl), rfl⟩
  · have h7' : (op == 7) = false := by simpa using h7
    go_enter Try.func58, Try.ntmps58
    go_wp2
    go_ret
    refine ⟨ret_bool ?_, rfl⟩
    rw [H.out, Bool.eq_iff_iff]; simp [h7]

theorem kid_any (h : Hd) (v : Value) (s : Nat) (w : World) (hh : h.ok) (hs : s ≤ 2) (q : Option Addr) (len cap : Nat) :
    Calls Try.prog 145 #[.agg #[.int .u8 h.op, .string h.name, .int .i64 h.n, .slice q len cap], .int .u8 s] w fun e w' => e = .returned (.bool (decide (sortO h.op = s))) ∧ Below w.heap.size w w' := by
  have HS := Lib.hid (fun w => ksort_any h.op w hh.op0 hh.op1)
  have hle := sortO_le h.op
  generalize sortO h.op = m at *
  generalize h.op = o1 at *
  generalize h.name = o2 at *
  generalize h.n = o3 at *
  go_enter Try.func145, Try.ntmps145
  go_wp2_with (go_at_call 70; refine (HS.out _).mono ?_; rintro e w' ⟨rfl, rfl⟩)
  go_ret
  refine ⟨ret_bool ?_, (Below.refl _ _).alloc (Nat.le_refl _) _⟩
  rw [Bool.eq_iff_iff]; simp; omega

/-- The i-th tree. -/
def Fo.get (f : Fo) (i : Nat) : Hd × Fo := f.toList.getD i (⟨0, ⟨#[]⟩, 0⟩, .nil)
theorem Fo.get_zero (h : Hd) (k r : Fo) : (Fo.cons h k r).get 0 = (h, k) := rfl
theorem Fo.get_succ (h : Hd) (k r : Fo) (i : Nat) : (Fo.cons h k r).get (i + 1) = r.get i := by simp [Fo.get, Fo.toList]
theorem FoAt.get {w : World} : ∀ {f : Fo} {b o : Nat}, FoAt w f b o → ∀ i, i < f.len →
    ∃ q cap, HdAt w b (o + i * 4) (f.get i).1 q (f.get i).2.len cap ∧ SlF w q cap (f.get i).2
  | .nil, _, _, _, i, hi => by simp [Fo.len] at hi
  | .cons h k r, b, o, ⟨q, cap, hh, hk, hr⟩, 0, _ => ⟨q, cap, by rw [Fo.get_zero]; simpa using hh, ⟨hh.lc, hh.cm, hk⟩⟩
  | .cons h k r, b, o, ⟨q, cap, hh, hk, hr⟩, i + 1, hi => by
    obtain ⟨q', cap', h1, h2⟩ := FoAt.get hr i (by simp [Fo.len] at hi; omega)
    rw [Fo.get_succ]
    exact ⟨q', cap', by rw [show o + (i + 1) * 4 = o + 4 + i * 4 by omega]; exact h1, h2⟩
theorem Fo.ok_get {f : Fo} (h : f.ok) : ∀ i, i < f.len → (f.get i).1.ok ∧ (f.get i).2.ok := by
  induction f with
  | nil => intro i hi; simp [Fo.len] at hi
  | cons h' k r _ hr =>
    intro i hi
    cases i with
    | zero => rw [Fo.get_zero]; exact ⟨h.1, h.2.1⟩
    | succ i => rw [Fo.get_succ]; exact hr h.2.2 i (by simp [Fo.len] at hi; omega)
theorem Fo.length_sorts (f : Fo) : f.sorts.length = f.len := by
  induction f with
  | nil => rfl
  | cons h k r _ hr => simp [Fo.sorts, Fo.len, hr]
theorem Fo.sorts_get {f : Fo} : ∀ i, i < f.len → f.sorts[i]? = some (sortO (f.get i).1.op) := by
  induction f with
  | nil => intro i hi; simp [Fo.len] at hi
  | cons h' k r _ hr =>
    intro i hi
    cases i with
    | zero => rfl
    | succ i => rw [Fo.get_succ]; simpa [Fo.sorts] using hr i (by simp [Fo.len] at hi; omega)

/-- A list of sorts in memory. -/
def SortsAt (w : World) (ss : List Nat) (b o : Nat) : Prop := ∀ i, (h : i < ss.length) → w.cell? ⟨b, o + i, none⟩ = some (.int .u8 (ss[i] : Nat))

theorem take_eq_succ {α : Type} [BEq α] {l m : List α} {k : Nat} {a b : α} (h : l.take k = m.take k) (ha : l[k]? = some a) (hb : m[k]? = some b) (hab : a = b) : l.take (k + 1) = m.take (k + 1) := by
  rw [List.take_add_one, List.take_add_one, h, ha, hb, hab]

set_option maxRecDepth 100000 in
set_option maxHeartbeats 1000000 in
theorem kidsEq_any (f : Fo) (q : Option Addr) (cap : Nat) (ss : List Nat) (a : Option Addr) (c : Nat) (w : World) (hf : SlF w q cap f) (hok : f.ok) (hss : ∀ s ∈ ss, s ≤ 2) (hc : ss.length ≤ c) (hcm : ss.length ≤ 10)
    (ha : 0 < ss.length → ∃ b o, a = some ⟨b, o, none⟩ ∧ SortsAt w ss b o) :
    Calls Try.prog 144 #[.slice q f.len cap, .slice a ss.length c, .func (.func 145) #[] #[]] w fun e w' => e = .returned (.bool (decide (f.sorts = ss))) ∧ Below w.heap.size w w' := by
  have hlen := f.length_sorts
  by_cases hl : f.len = ss.length
  · have hl' : ((f.len : Int) == ss.length) = true := by simp [hl]
    have HL := Lib.hid hl
    have HF := Lib.hid hf
    have HA := Lib.hid ha
    have HG := Lib.hid hlen
    have HSS := Lib.hid hss
    rw [hl]
    clear hl hl' hf ha hlen hss
    generalize hm : ss.length = m at *
    go_enter Try.func144, Try.ntmps144
    go_wp2
    go_loopw [17] (fun i wr => ∃ k : Nat, k ≤ m ∧ i = .int .i64 k ∧ f.sorts.take k = ss.take k ∧ Below w.heap.size w wr) (fun i _ => m - (intOf i).toNat)
    case atStart => exact ⟨0, Nat.zero_le _, rfl, rfl, Below.refl _ _⟩
    case round =>
      obtain ⟨k, hk, rfl, ht, hB⟩ := hrel
      have HT := Lib.hid ht
      clear ht
      by_cases hkm : k < m
      · have hkf : k < f.len := by rw [HL.out]; exact hkm
        have hks : k < ss.length := by rw [hm]; exact hkm
        obtain ⟨b, o, rfl, hfo⟩ := ((HF.out.below hB).at_ (Nat.lt_of_le_of_lt (Nat.zero_le _) hkf))
        obtain ⟨b2, o2, rfl, hso⟩ := HA.out (by omega)
        obtain ⟨q1, cap1, hh, _⟩ := hfo.get k hkf
        have hok1 := (Fo.ok_get hok k hkf).1
        have hsk : w.cell? ⟨b2, o2 + k, none⟩ = some (.int .u8 (ss[k]'hks : Nat)) := hso k hks
        have hsk' : wr.cell? ⟨b2, o2 + k, none⟩ = some (.int .u8 (ss[k]'hks : Nat)) := (hB.cell (p := ⟨b2, o2 + k, none⟩) (World.block_lt_of_cell? w _ hsk)).trans hsk
        have hs2 : ss[k]'hks ≤ 2 := HSS.out _ (List.getElem_mem _)
        have e1 := Lib.hid (Fo.sorts_get (f := f) k hkf)
        have e2 : Hid (ss[k]? = some (ss[k]'hks)) := Lib.hid (List.getElem?_eq_getElem _)
        have HC := Lib.hid fun w => kid_any (f.get k).1 undef (ss[k]'hks) w hok1 hs2 q1 (f.get k).2.len cap1
        have c0 := hh.c0
        have c1 := hh.c1
        have c2 := hh.c2
        have c3 := hh.c3
        have hlt := hh.lt
        have hlt2 : b2 < wr.heap.size := World.block_lt_of_cell? wr _ hsk'
        have hB0 := Lib.hid hB
        have hss := hB.size
        clear hh hfo hso hsk hB hkf
        generalize ss[k]'_ = s1 at *
        by_cases hse : sortO (f.get k).1.op = s1
        · have hd : decide (sortO (f.get k).1.op = s1) = true := decide_eq_true hse
          rw [hd] at HC
          have HE := Lib.hid hse
          clear hse hd
          generalize (f.get k).1.op = g1 at *
          generalize (f.get k).1.name = g2 at *
          generalize (f.get k).1.n = g3 at *
          generalize (f.get k).2.len = g4 at *
          go_wp2_with (go_at_call 145; refine (HC.out _).mono ?_; rintro e w' ⟨rfl, hb2⟩; have HB2 := Lib.hid hb2; clear hb2)
          go_roundw
          case rel => exact ⟨k + 1, by omega, by go_num, take_eq_succ HT.out e1.out e2.out HE.out, (hB0.out.alloc hss _).trans (HB2.out.mono (by simp; omega))⟩
          case measure => simp [intOf]; omega
        · have hd : decide (sortO (f.get k).1.op = s1) = false := decide_eq_false hse
          rw [hd] at HC
          have HE := Lib.hid hse
          clear hse hd
          generalize (f.get k).1.op = g1 at *
          generalize (f.get k).1.name = g2 at *
          generalize (f.get k).1.n = g3 at *
          generalize (f.get k).2.len = g4 at *
          go_wp2_with (go_at_call 145; refine (HC.out _).mono ?_; rintro e w' ⟨rfl, hb2⟩; have HB2 := Lib.hid hb2; clear hb2)
          go_ret
          refine ⟨ret_bool (Eq.symm (decide_eq_false fun h => ?_)), (hB0.out.alloc hss _).trans (HB2.out.mono (by simp; omega))⟩
          have h1 := e1.out; rw [h, e2.out] at h1
          exact HE.out (Option.some.inj h1).symm
      · have hke : k = m := by omega
        have HK := Lib.hid hke
        have HB0 := Lib.hid hB
        clear hB hke
        go_wp2
        go_ret
        refine ⟨ret_bool (Eq.symm (decide_eq_true ?_)), HB0.out⟩
        have h1 := HT.out
        rwa [HK.out, List.take_of_length_le (by rw [HG.out, HL.out]; exact Nat.le_refl _), List.take_of_length_le (by rw [hm]; exact Nat.le_refl _)] at h1
  · have hl' : ((f.len : Int) == ss.length) = false := by rw [beq_eq_false_iff_ne]; omega
    have hd : decide (f.sorts = ss) = false := decide_eq_false fun h => hl (by rw [← hlen, h])
    have HD := Lib.hid hd
    clear hd hlen hf hl
    go_enter Try.func144, Try.ntmps144
    go_wp2
    go_ret
    exact ⟨ret_bool HD.out.symm, Below.refl _ _⟩

end Go.Proofs.Ytmjijmkdeblefaa
