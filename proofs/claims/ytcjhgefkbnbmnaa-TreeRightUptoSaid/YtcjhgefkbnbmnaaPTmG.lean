/- many, of the tree's laws. -/
import Derived.Test.YtcjhgefkbnbmnaaPTmF
import Derived.Test.YtcjhgefkbnbmnaaPE
namespace Go.Proofs.Ytcjhgefkbnbmnaa
open Go.RowKit LM
set_option linter.unusedVariables false

def bsum (l : List (TH × TF)) : Nat := (l.map fun t => 1 + t.1.ak.size).sum
theorem bsum_cons (t : TH × TF) (l : List (TH × TF)) : bsum (t :: l) = (1 + t.1.ak.size) + bsum l := by simp [bsum]
theorem bsum_append (a b : List (TH × TF)) : bsum (a ++ b) = bsum a + bsum b := by simp [bsum]
theorem bsum_flat (f : TF) : bsum f.flat = f.bulk := by
  induction f with
  | nil => rfl
  | cons h k r hk hr => rw [TF.flat, bsum_cons, bsum_append, hk, hr]; simp only [TF.bulk]; omega
theorem bsum_take {l : List (TH × TF)} {j : Nat} (h : j < l.length) : bsum (l.take (j + 1)) = bsum (l.take j) + (1 + (l[j]).1.ak.size) := by
  rw [List.take_succ_eq_append_getElem h, bsum_append, bsum_cons]; simp [bsum]
theorem bsum_take_le (l : List (TH × TF)) (j : Nat) : bsum (l.take j) ≤ bsum l := by
  have := congrArg bsum (List.take_append_drop j l)
  rw [bsum_append] at this
  omega
theorem bsum_mem {l : List (TH × TF)} {t : TH × TF} (h : t ∈ l) : 1 + t.1.ak.size ≤ bsum l := by
  induction l with
  | nil => cases h
  | cons x l ih =>
    rw [bsum_cons]
    rcases List.mem_cons.1 h with rfl | h
    · omega
    · have := ih h; omega

set_option maxRecDepth 100000 in
set_option maxHeartbeats 4000000 in
theorem many5_any (h : TH) (k : TF) (qa : Option Addr) (ca : Nat) (q : Option Addr) (cap : Nat) (w : World) (ha : SlF w qa ca h.ak) (hsl : TSl w q cap k) (hsz : 1 + h.ak.size + k.bulk ≤ 1073741824) :
    Calls Try.prog 32 #[.agg (tmV h qa ca q k.len cap)] w fun e w' => e = .returned (.bool (decide (300 < 1 + k.size) || decide (900 < 1 + h.ak.size + k.bulk))) ∧ Below w.heap.size w w' := by
  have hks := TF.size_le_bulk k
  have HN := Lib.hid (Nodes_any w (k.size + 1) h k qa ca q cap (w.alloc (.cells (tmV h qa ca q k.len cap) 43)) (by omega) (by omega) (below_box _ _) ha hsl)
  have hb0 : bsum ((h, k) :: k.flat) = 1 + h.ak.size + k.bulk := by rw [bsum_cons, bsum_flat]
  have hl0 : ((h, k) :: k.flat).length = 1 + k.size := by rw [List.length_cons, TF.length_flat]; omega
  have HP := Lib.hid fun (t : TH × TF) (ht : t ∈ (h, k) :: k.flat) (q' : Option Addr) (c' : Nat) (w' : World) (hs : SlF w' q' c' t.1.ak) => Parts_any (t.1.ak.size + 1) t.1.ah t.1.ak q' c' w' (by omega) (by have := bsum_mem ht; omega) hs
  unfold NodesPost at HN
  rw [← hb0, ← hl0]
  rw [show 1 + k.size = ((h, k) :: k.flat).length from hl0.symm] at HN
  have hbs : bsum ((h, k) :: k.flat) ≤ 1073741824 := by omega
  have hls : ((h, k) :: k.flat).length ≤ 1073741824 := by omega
  clear hks hb0 hl0 hsl ha
  generalize (h, k) :: k.flat = l at *
  generalize hLd : k.len = Lk at *
  clear hLd
  generalize hNd : l.length = N at *
  have HND := Lib.hid hNd
  have HBS := Lib.hid hbs
  unfold tmV at HN ⊢
  clear hNd hbs
  go_enter Try.func32, Try.ntmps32
  go_wp2_with fail
  refine HN.out.mono ?_
  rintro e w1 ⟨v, ps, rfl, hown, hps, hok, hb1⟩
  have hN : 0 < N ∨ N = 0 := by omega
  obtain ⟨a, c, rfl⟩ := own_value hown
  have HO := Lib.hid hown
  have HPS := Lib.hid hps
  have HOK := Lib.hid hok
  have HB1 := Lib.hid (below_then (below_box _ _) hb1)
  clear hown hps hok hb1
  go_wp2
  go_loopw [4, 5] (fun s i wr => ∃ j : Nat, i = .int .i64 j ∧ j ≤ N ∧ s = .int .i64 (bsum (l.take j)) ∧ Below w1.heap.size w1 wr) (fun _ i _ => N - (intOf i).toNat)
  case atStart => exact ⟨0, rfl, Nat.zero_le _, rfl, Below.refl _ _⟩
  case round =>
    obtain ⟨j, rfl, hjN, rfl, hb⟩ := hrel
    have HB := Lib.hid hb
    by_cases hj : j < N
    · obtain ⟨g, c', cur, e, hg1, hg2, hg3, hg4, hcl⟩ := own_some HO.out (by omega)
      cases e
      have hj2 : j < l.length := by rw [HND.out]; exact hj
      have hjp : j < ps.length := by have := congrArg List.length HPS.out; simp at this; omega
      have ht : (ps[j]).t = l[j] := by
        have := List.getElem_of_eq HPS.out (i := j) (by simpa using hjp)
        simpa using this
      have hgc : ∀ c, c < 10 → w1.cell? ⟨g, 0 + (j * 10 + c), none⟩ = (ps[j]).enc[c]? := fun c hc => by
        have e1 := tvCells_get ps j ps[j] (List.getElem?_eq_getElem hjp) c hc
        cases hx : (ps[j]).enc[c]? with
        | none => simp [TV.enc] at hx; omega
        | some u => exact hcl _ _ (e1.trans hx)
      have hgb := (Array.getElem?_eq_some_iff.1 hg2).1
      have hcc : ∀ c, c < 10 → wr.cell? ⟨g, j * 10 + c, none⟩ = (ps[j]).enc[c]? := fun c hc => by
        have := hgc c hc
        rw [Nat.zero_add] at this
        exact (hb.cell (p := ⟨g, j * 10 + c, none⟩) hgb).trans this
      have c5 : wr.cell? ⟨g, j * 10 + 5, none⟩ = some (.int .u8 (l[j]).1.ah.op) := by rw [hcc 5 (by omega)]; simp [TV.enc, ht]
      have c6 : wr.cell? ⟨g, j * 10 + 5 + 1, none⟩ = some (.string (l[j]).1.ah.name) := by rw [show j * 10 + 5 + 1 = j * 10 + 6 by omega, hcc 6 (by omega)]; simp [TV.enc, ht]
      have c7 : wr.cell? ⟨g, j * 10 + 5 + 2, none⟩ = some (.int .i64 (l[j]).1.ah.n) := by rw [show j * 10 + 5 + 2 = j * 10 + 7 by omega, hcc 7 (by omega)]; simp [TV.enc, ht]
      have c8 : wr.cell? ⟨g, j * 10 + 5 + 3, none⟩ = some (.slice (ps[j]).qa (l[j]).1.ak.len (ps[j]).ca) := by rw [show j * 10 + 5 + 3 = j * 10 + 8 by omega, hcc 8 (by omega)]; simp [TV.enc, ht]
      have hsl : SlF wr (ps[j]).qa (ps[j]).ca (l[j]).1.ak := by
        have := (HOK.out _ (List.getElem_mem hjp)).1
        rw [ht] at this
        exact this.below (below_go2 HB1.out hb)
      have HC := Lib.hid (HP.out l[j] (List.getElem_mem hj2) _ _ wr hsl)
      have HT := Lib.hid (bsum_take hj2)
      have hle := bsum_take_le l (j + 1)
      rw [HT.out] at hle
      have hle2 := HBS.out
      generalize l[j] = t at *
      clear hcc hgc hcl hsl ht
      go_wp2_with fail
      refine HC.out.mono ?_
      rintro e w2 ⟨v2, ps2, rfl, own2, _, hb2⟩
      obtain ⟨a2, c2, rfl⟩ := own_value own2
      have HB2 := Lib.hid (below_go2 hb hb2)
      clear own2 hb2 hb c5 c6 c7 c8
      go_wp2
      go_roundw
      case rel => exact ⟨j + 1, by go_num, by omega, by rw [HT.out]; go_num, HB2.out⟩
      case measure => simp [intOf]; omega
    · have hje : j = N := by omega
      have e : l.take j = l := by rw [List.take_of_length_le]; rw [HND.out]; omega
      rw [e]
      have HJ := Lib.hid hje
      clear hje hb
      have hle2 := HBS.out
      have e1 : decide ((300 : Int) < (N : Int)) = decide (300 < N) := by rw [Bool.eq_iff_iff]; simp only [decide_eq_true_eq]; omega
      have e2 : decide ((900 : Int) < ((bsum l : Nat) : Int)) = decide (900 < bsum l) := by rw [Bool.eq_iff_iff]; simp only [decide_eq_true_eq]; omega
      have HE1 := Lib.hid e1
      have HE2 := Lib.hid e2
      clear e1 e2
      by_cases h1 : 300 < N
      · go_wp2
        go_ret
        exact ⟨by simp, below_go2 HB1.out HB.out⟩
      · go_wp2
        go_ret
        exact ⟨ret_bool (by rw [HE1.out, HE2.out]), below_go2 HB1.out HB.out⟩
end Go.Proofs.Ytcjhgefkbnbmnaa
