/- The document's Depth. -/
import Derived.Test.YtcjhgefkbnbmnaaPTmH
namespace Go.Proofs.Ytcjhgefkbnbmnaa
open Go.RowKit LM
set_option linter.unusedVariables false

/-- The depth of the first j trees. -/
def depTo : TF → Nat → Nat
  | .nil, _ => 0
  | .cons _ _ _, 0 => 0
  | .cons h k r, j + 1 => max (1 + k.dep) (depTo r j)
theorem depTo_zero (f : TF) : depTo f 0 = 0 := by cases f <;> rfl
theorem depTo_succ : ∀ {f : TF} {j : Nat}, j < f.len → depTo f (j + 1) = max (depTo f j) (1 + (f.get j).2.dep)
  | .nil, _, h => by simp [TF.len] at h
  | .cons h k r, 0, _ => by rw [TF.get_zero]; show max (1 + k.dep) (depTo r 0) = _; rw [depTo_zero]; simp [depTo]
  | .cons h k r, j + 1, hj => by
    rw [TF.get_succ]
    show max (1 + k.dep) (depTo r (j + 1)) = max (max (1 + k.dep) (depTo r j)) _
    rw [depTo_succ (f := r) (j := j) (by simpa [TF.len] using hj), Nat.max_assoc]
theorem depTo_all : ∀ (f : TF), depTo f f.len = f.dep
  | .nil => rfl
  | .cons h k r => by show max (1 + k.dep) (depTo r r.len) = _; rw [depTo_all r]; rfl
theorem dep_le_size (f : TF) : f.dep ≤ f.size := by
  induction f with
  | nil => exact Nat.le_refl _
  | cons h k r hk hr => simp only [TF.dep, TF.size]; omega
theorem depTo_le (f : TF) (j : Nat) : depTo f j ≤ f.dep := by
  induction f generalizing j with
  | nil => exact Nat.le_refl _
  | cons h k r _ hr =>
    cases j with
    | zero => exact Nat.zero_le _
    | succ j => have := hr j; simp only [depTo, TF.dep]; omega

set_option maxRecDepth 100000 in
set_option maxHeartbeats 2000000 in
theorem refDepth_any (m : Nat) : ∀ (h : TH) (k : TF) (qa : Option Addr) (ca : Nat) (q : Option Addr) (cap : Nat) (w : World), k.size < m → k.size ≤ 1073741824 → SlF w qa ca h.ak → TSl w q cap k →
    Calls Try.prog 38 #[.agg (tmV h qa ca q k.len cap)] w fun e w' => e = .returned (.int .i64 (1 + k.dep : Nat)) ∧ Below w.heap.size w w' := by
  induction m with
  | zero => intro h k qa ca q cap w hm; omega
  | succ m ih =>
    intro h k qa ca q cap w hm hsz hal hsl
    have HIH : Hid (∀ j, j < k.len → ∀ (qa' : Option Addr) (ca' : Nat) (q' : Option Addr) (cap' : Nat) (w' : World), SlF w' qa' ca' (k.get j).1.ak → TSl w' q' cap' (k.get j).2 → Calls Try.prog 38 #[.agg (tmV (k.get j).1 qa' ca' q' (k.get j).2.len cap')] w' fun e w'' => e = .returned (.int .i64 (1 + (k.get j).2.dep : Nat)) ∧ Below w'.heap.size w' w'') :=
      Lib.hid fun j hj qa' ca' q' cap' w' ha hs => ih _ _ qa' ca' q' cap' w' (by have := TF.get_size hj; omega) (by have := TF.get_size hj; omega) ha hs
    have hbox := World.alloc_heap_new w (.cells (tmV h qa ca q k.len cap) 43)
    have HBX := Lib.hid hbox
    have HSL := Lib.hid hsl
    have hlc := hsl.lc
    have hcm := hsl.cm
    unfold maxLen at hcm
    have HALL := Lib.hid (depTo_all k)
    have hdk := dep_le_size k
    clear hsl hal ih hm hbox
    obtain ⟨L, hLd⟩ : ∃ L, k.len = L := ⟨_, rfl⟩
    have HLD := Lib.hid hLd
    rw [hLd] at hlc HBX ⊢
    clear hLd
    unfold tmV at HBX HIH ⊢
    go_enter Try.func38, Try.ntmps38
    go_wp2
    go_loopw [3, 4] (fun d i wr => ∃ j : Nat, i = .int .i64 j ∧ j ≤ L ∧ d = .int .i64 (depTo k j) ∧ wr.heap[w.heap.size]? = some (.cells #[.int .u8 h.op, .string h.name, .string h.arg, .int .i64 h.n, .bool h.has, .int .u8 h.ah.op, .string h.ah.name, .int .i64 h.ah.n, .slice qa h.ak.len ca, .slice q L cap] 43 (0, 0)) ∧ Below w.heap.size w wr) (fun _ i _ => L - (intOf i).toNat)
    case atStart => exact ⟨0, rfl, Nat.zero_le _, by rw [depTo_zero]; rfl, HBX.out, below_box _ _⟩
    case round =>
      obtain ⟨j, rfl, hjL, rfl, hbx, hb⟩ := hrel
      obtain ⟨_, _, _, _, _, _, _, _, _, y9⟩ := row10 hbx
      have HB := Lib.hid hb
      have HX := Lib.hid hbx
      clear hbx
      have hdj := depTo_le k j
      by_cases hj : j < L
      · have hjk : j < k.len := by rw [HLD.out]; exact hj
        obtain ⟨b, o, rfl, hfo⟩ := ((HSL.out.below hb).at_ (Nat.lt_of_le_of_lt (Nat.zero_le _) hjk))
        obtain ⟨qa1, ca1, q1, cap1, hd1, ha1, hs1⟩ := hfo.get j hjk
        have c0 := hd1.c0
        have c1 := hd1.c1
        have c2 := hd1.c2
        have c3 := hd1.c3
        have c4 := hd1.c4
        have c5 := hd1.c5
        have c6 := hd1.c6
        have c7 := hd1.c7
        have c8 := hd1.c8
        have c9 := hd1.c9
        have HC := Lib.hid (HIH.out j hjk qa1 ca1 q1 cap1 _ ha1 hs1)
        have HS := Lib.hid (depTo_succ hjk)
        have hdn := depTo_le k (j + 1)
        rw [HS.out] at hdn
        clear hd1 hfo hs1 ha1 hb
        generalize (k.get j).2.dep = dd at *
        generalize (k.get j).1 = t1 at *
        generalize depTo k j = d0 at *
        go_wp2_with fail
        refine HC.out.mono ?_
        rintro e w2 ⟨rfl, hb2⟩
        have HB2 := Lib.hid (below_go2 HB.out hb2)
        have HX2 := Lib.hid ((hb2.block _ (Array.getElem?_eq_some_iff.1 HX.out).1).trans HX.out)
        clear hb2 c0 c1 c2 c3 c4 c5 c6 c7 c8 c9 y9
        go_wp2
        go_roundw
        case rel => exact ⟨j + 1, by go_num, by omega, by rw [HS.out]; go_num, HX2.out, HB2.out⟩
        case measure => simp [intOf]; omega
      · have hje : j = L := by omega
        have HJ : Hid (depTo k j = k.dep) := Lib.hid (by rw [hje, ← HLD.out]; exact HALL.out)
        clear hje hb
        go_wp2
        go_ret
        refine ⟨?_, HB.out⟩
        rw [HJ.out]
        exact ret_int (by omega)
end Go.Proofs.Ytcjhgefkbnbmnaa
