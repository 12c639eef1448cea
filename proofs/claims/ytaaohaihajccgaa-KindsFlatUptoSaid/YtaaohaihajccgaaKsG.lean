/- The stable sort of fields: whatever their number. -/
import Derived.Test.YtaaohaihajccgaaKsF
import Derived.Test.YtaaohaihajccgaaKsQ
namespace Go.Proofs.Ytaaohaihajccgaa
open Go.RowKit LM Go.Shelf Go.Sort
set_option linter.unusedVariables false

theorem symOk : ∀ n, SymOk n := by
  intro n
  induction n with
  | zero => intro W B g cap P L R S a m b N hn h hN ha hm hb hl1; omega
  | succ n ih =>
    intro W B g cap P L R S a m b N hn h hN ha hm hb hl1 hr1 hl hL hR
    by_cases h1 : L.length = 1
    · obtain ⟨x, rfl⟩ := List.length_eq_one_iff.1 h1
      exact symMerge_one W B g cap P R S x a m b N h hN ha (by simpa using hm) hb hl hR ordF
    · by_cases h2 : R.length = 1
      · obtain ⟨y, rfl⟩ := List.length_eq_one_iff.1 h2
        exact symMerge_last W B g cap P L S y a m b N h hN ha hm (by simpa using hb) hl hL h1 ordF
      · by_cases h3 : (a + b) / 2 < m
        · exact symMerge_big n ih W B g cap P L R S a m b N _ hn h hN ha hm hb (by omega) (by omega) hl hL hR ordF rfl h3
        · exact symMerge_low n ih W B g cap P L R S a m b N _ hn h hN ha hm hb (by omega) (by omega) hl hL hR ordF rfl (by omega)

/-- A part sorted by insertion. -/
theorem ins_part (W : World) (B g cap : Nat) (P X S : List Fld) (a b N : Nat) (h : FlAt W B g cap (P ++ X ++ S)) (hN : (P ++ X ++ S).length = N) (ha : a = P.length) (hb : b = a + X.length) (hl : N ≤ 1099511627776) :
    Calls Try.prog 89 #[.slice (some ⟨g, 0, none⟩) N cap, .int .i64 a, .int .i64 b, .func (.func 73) #[] #[]] W fun e w' => e = .returned (.tuple #[]) ∧ FlAt w' B g cap (P ++ srt ltF X ++ S) ∧ W.grownBy w' (some g) := by
  obtain ⟨fs, hfs⟩ : ∃ fs, P ++ X ++ S = fs := ⟨_, rfl⟩
  have hlist := insSort_list ordF P X S ha hb
  have hbl : b ≤ N := by rw [← hN]; simp; omega
  rw [hfs] at h hN hlist
  subst hN
  have hH : HoldsK Fld.enc 5 W g 0 fs.toArray := by
    obtain ⟨cur, _, hg, hc, hm, hs, ht⟩ := h.parts
    intro j hj
    rw [flat_fld] at hj ⊢
    have hj' : j < (fldCells fs).length := by simpa using hj
    have e1 : cur.toList[j]? = (fldCells fs)[j]? := by rw [← ht, List.getElem?_take_of_lt (by rw [length_fldCells] at hj'; exact hj')]
    refine ⟨?_, by simp [World.frozen?, hg]⟩
    simp only [World.cell?, hg]
    rw [List.getElem?_eq_getElem hj'] at e1
    simpa [hj'] using e1
  have hc := AnyQ.insertionSortCmpFunc srtLays 5 Try.isAgg37 Try.sizeOf37 Fld.enc (fun _ => rfl) (fun x v hv => by simp [Fld.enc] at hv; rcases hv with rfl | rfl | rfl | rfl | rfl <;> rfl) fldCmp 73 #[] g 0 cap a b fs.toArray W
    (enters_of Try.func73 (by kernel_rfl) rfl) (cmp_lays _ _ _ _) hH h.lt (by omega) (by simpa using hbl) (by simp; omega)
  refine (hc.mono fun e w' hh => ?_)
  obtain ⟨rfl, m, os, rfl⟩ := hh
  have hsz : (Sort.insertionSort (ltOf fldCmp) fs.toArray a b).size = fs.length := by
    unfold Sort.insertionSort
    rw [size_insOuter _ _ _ _ _ _ (Nat.le_refl _)]; simp
  obtain ⟨r1, r2⟩ := sorted_world (m := m) (os := os) h hsz
  refine ⟨rfl, ?_, r2⟩
  have hl2 : (P ++ srt ltF X ++ S).length = fs.length := by rw [← hfs]; simp [length_srt]
  unfold FlAt
  rw [hl2, ← hlist]
  exact r1

set_option maxRecDepth 100000 in
set_option maxHeartbeats 4000000 in
theorem stable_many (W : World) (B g cap : Nat) (fs : List Fld) (N : Nat) (h : FlAt W B g cap fs) (hN : fs.length = N) (hl : N ≤ 1099511627776) :
    Calls Try.prog 82 #[.slice (some ⟨g, 0, none⟩) N cap, .int .i64 N, .func (.func 73) #[] #[]] W fun e w' => e = .returned (.tuple #[]) ∧ FlAt w' B g cap (srt ltF fs) ∧ W.grownBy w' (some g) := by
  have HF := Lib.hid h
  have HN := Lib.hid hN
  clear h hN
  go_enter Try.func82, Try.ntmps82
  go_wp2
  go_loopw [7, 8] (fun va vb wr => ∃ (a : Nat) (PA : List Fld), va = .int .i64 a ∧ vb = .int .i64 (a + 20 : Nat) ∧ a ≤ N ∧ Hid (PA.length = a ∧ PA ++ blk ltF 20 (fs.drop a) = blk ltF 20 fs) ∧ FlAt wr B g cap (PA ++ fs.drop a) ∧ W.grownBy wr (some g)) (fun va _ _ => N - (intOf va).toNat)
  case atStart => exact ⟨0, [], rfl, rfl, Nat.zero_le _, Lib.hid ⟨rfl, by simp⟩, by simpa using HF.out, ⟨rfl, rfl, rfl, Nat.le_refl _, fun _ _ _ => rfl⟩⟩
  case round =>
    obtain ⟨a, PA, rfl, rfl, haN, HPA, hfl, hgr⟩ := hrel
    have HFL := Lib.hid hfl
    have HGR := Lib.hid hgr
    clear hfl hgr
    have ec : ((a + 20 : Nat) : Int) = (a : Int) + 20 := by omega
    by_cases hb : a + 20 ≤ N
    · have hbz : (a : Int) + 20 ≤ (N : Int) := by omega
      have HC : Hid (Calls Try.prog 89 #[.slice (some ⟨g, 0, none⟩) N cap, .int .i64 a, .int .i64 ((a : Int) + 20), .func (.func 73) #[] #[]] wr fun e w' => e = .returned (.tuple #[]) ∧ FlAt w' B g cap (PA ++ srt ltF ((fs.drop a).take 20) ++ fs.drop (a + 20)) ∧ wr.grownBy w' (some g)) := Lib.hid (by
        have hlen : ((fs.drop a).take 20).length = 20 := by have := HN.out; simp; omega
        have h1 := ins_part wr B g cap PA ((fs.drop a).take 20) (fs.drop (a + 20)) a (a + 20) N (by
          have := HFL.out
          rw [← List.take_append_drop 20 (fs.drop a), List.drop_drop] at this
          simpa using this) (by have := HPA.out.1; have := HN.out; simp; omega) HPA.out.1.symm (by rw [hlen]) hl
        rwa [ec] at h1)
      have HST : Hid ((PA ++ srt ltF ((fs.drop a).take 20)).length = a + 20 ∧ (PA ++ srt ltF ((fs.drop a).take 20)) ++ blk ltF 20 (fs.drop (a + 20)) = blk ltF 20 fs) := Lib.hid (by
        have := HN.out
        refine ⟨by rw [List.length_append, length_srt, HPA.out.1]; simp; omega, ?_⟩
        rw [← HPA.out.2, blk_app (l := fs.drop a) (by omega) (by simp; omega), List.drop_drop]; simp)
      go_wp2_with (go_at_call 89; refine HC.out.mono ?_; rintro e w' ⟨rfl, hf, hg⟩; have HF2 := Lib.hid hf; have HG2 := Lib.hid hg; clear hf hg)
      go_roundw
      case rel => exact ⟨a + 20, _, by go_num, by go_num, hb, HST, HF2.out, grown_again HGR.out HG2.out⟩
      case measure => simp [intOf]; omega
    · have hbz : ¬ (a : Int) + 20 ≤ (N : Int) := by omega
      have HC : Hid (Calls Try.prog 89 #[.slice (some ⟨g, 0, none⟩) N cap, .int .i64 a, .int .i64 N, .func (.func 73) #[] #[]] wr fun e w' => e = .returned (.tuple #[]) ∧ FlAt w' B g cap (blk ltF 20 fs) ∧ wr.grownBy w' (some g)) := Lib.hid (by
        have h1 := ins_part wr B g cap PA (fs.drop a) [] a N N (by simpa using HFL.out) (by have := HPA.out.1; have := HN.out; simp; omega) HPA.out.1.symm (by have := HN.out; simp; omega) hl
        rw [← HPA.out.2, blk_end (by have := HN.out; simp; omega)]
        simpa using h1)
      go_wp2_with (go_at_call 89; refine HC.out.mono ?_; rintro e w' ⟨rfl, hf, hg⟩; have HF2 := Lib.hid hf; have HG2 := Lib.hid (grown_again HGR.out hg); clear hf hg)
      clear HC ec hbz hb HFL HGR
      go_loopw [6] (fun vs wx => ∃ s : Nat, vs = .int .i64 s ∧ 20 ≤ s ∧ s ≤ 2 * N + 20 ∧ FlAt wx B g cap (blk ltF s fs) ∧ W.grownBy wx (some g)) (fun vs _ => N - (intOf vs).toNat)
      case atStart => exact ⟨20, rfl, Nat.le_refl _, by omega, HF2.out, HG2.out⟩
      case round =>
        obtain ⟨s, rfl, hs20, hsN, hfl, hgr⟩ := hrel
        have HFL := Lib.hid hfl
        have HGR := Lib.hid hgr
        clear hfl hgr
        by_cases hsn : s < N
        · have ew : IntKind.i64.wrap (2 * (s : Int)) = 2 * (s : Int) := IntWalk.i64_in _ (by omega)
          have ew2 : IntKind.i64.wrap ((s : Int) * 2) = (s : Int) * 2 := IntWalk.i64_in _ (by omega)
          go_wp2
          go_loopw [7, 8] (fun va vb wy => ∃ (a : Nat) (PA : List Fld), va = .int .i64 a ∧ vb = .int .i64 ((a : Int) + 2 * (s : Int)) ∧ a ≤ N ∧ Hid (PA.length = a ∧ PA ++ blk ltF (2 * s) (fs.drop a) = blk ltF (2 * s) fs) ∧ FlAt wy B g cap (PA ++ blk ltF s (fs.drop a)) ∧ W.grownBy wy (some g)) (fun va _ _ => N - (intOf va).toNat)
          case atStart => exact ⟨0, [], rfl, by simp, Nat.zero_le _, Lib.hid ⟨rfl, by simp⟩, by simpa using HFL.out, HGR.out⟩
          case round =>
            obtain ⟨a, PA, rfl, rfl, haN, HPA, hfl, hgr⟩ := hrel
            have HFA := Lib.hid hfl
            have HGA := Lib.hid hgr
            clear hfl hgr
            by_cases hb : a + 2 * s ≤ N
            · have hbz : (a : Int) + 2 * (s : Int) ≤ (N : Int) := by omega
              have hd : decide ((a : Int) + 2 * (s : Int) ≤ (N : Int)) = true := decide_eq_true hbz
              have hX : (fs.drop a).length = N - a := by have := HN.out; simp; omega
              have hcut : blk ltF s (fs.drop a) = srt ltF ((fs.drop a).take s) ++ srt ltF ((fs.drop (a + s)).take s) ++ blk ltF s (fs.drop (a + 2 * s)) := by
                rw [blk_app (l := fs.drop a) (by omega) (by omega), List.drop_drop, blk_app (l := fs.drop (a + s)) (by omega) (by simp; have := HN.out; omega), List.drop_drop, show a + s + s = a + 2 * s by omega, List.append_assoc]
              have hmg : mrg ltF (srt ltF ((fs.drop a).take s)) (srt ltF ((fs.drop (a + s)).take s)) = srt ltF ((fs.drop a).take (2 * s)) := by
                rw [← srt_append ordF, show 2 * s = s + s by omega, List.take_add, List.drop_drop]
              have HC : Hid (Calls Try.prog 90 #[.slice (some ⟨g, 0, none⟩) N cap, .int .i64 a, .int .i64 ((a : Int) + (s : Int)), .int .i64 ((a : Int) + 2 * (s : Int)), .func (.func 73) #[] #[]] wr fun e w' => e = .returned (.tuple #[]) ∧ FlAt w' B g cap ((PA ++ srt ltF ((fs.drop a).take (2 * s))) ++ blk ltF s (fs.drop (a + 2 * s))) ∧ wr.grownBy w' (some g)) := Lib.hid (by
                have hnn := HN.out
                have hp := HPA.out.1
                have hf := HFA.out
                rw [hcut] at hf
                have h1 := symOk _ wr B g cap PA (srt ltF ((fs.drop a).take s)) (srt ltF ((fs.drop (a + s)).take s)) (blk ltF s (fs.drop (a + 2 * s))) a (a + s) (a + 2 * s) N (Nat.le_refl _) (by simpa using hf)
                  (by simp [length_srt, length_blk _ _ (Nat.le_refl _)]; omega) hp.symm (by simp [length_srt]; omega) (by simp [length_srt]; omega) (by simp [length_srt]; omega) (by simp [length_srt]; omega) hl (ris_srt ordF _) (ris_srt ordF _)
                rw [hmg] at h1
                simpa using h1)
              have HST : Hid ((PA ++ srt ltF ((fs.drop a).take (2 * s))).length = a + 2 * s ∧ (PA ++ srt ltF ((fs.drop a).take (2 * s))) ++ blk ltF (2 * s) (fs.drop (a + 2 * s)) = blk ltF (2 * s) fs) := Lib.hid (by
                refine ⟨by rw [List.length_append, length_srt, HPA.out.1, List.length_take, hX]; omega, ?_⟩
                rw [← HPA.out.2, blk_app (l := fs.drop a) (by omega) (by omega), List.drop_drop, List.append_assoc])
              clear hcut hmg hX
              go_wp2_with (go_at_call 90; refine HC.out.mono ?_; rintro e w' ⟨rfl, hf, hg⟩; have HF2 := Lib.hid hf; have HG2 := Lib.hid hg; clear hf hg)
              go_roundw
              case rel => exact ⟨a + 2 * s, _, by first | rfl | (congr 1; done) | (congr 1; omega), by first | rfl | (congr 1; done) | (congr 1; omega), hb, HST, HF2.out, grown_again HGA.out HG2.out⟩
              case measure => simp [intOf]; omega
            · have hbz : ¬ (a : Int) + 2 * (s : Int) ≤ (N : Int) := by omega
              have hd : decide ((a : Int) + 2 * (s : Int) ≤ (N : Int)) = false := decide_eq_false hbz
              have hX : (fs.drop a).length = N - a := by have := HN.out; simp; omega
              by_cases hm : a + s < N
              · have hmz : (a : Int) + (s : Int) < (N : Int) := by omega
                have HC : Hid (Calls Try.prog 90 #[.slice (some ⟨g, 0, none⟩) N cap, .int .i64 a, .int .i64 ((a : Int) + (s : Int)), .int .i64 N, .func (.func 73) #[] #[]] wr fun e w' => e = .returned (.tuple #[]) ∧ FlAt w' B g cap (blk ltF (2 * s) fs) ∧ wr.grownBy w' (some g)) := Lib.hid (by
                  have hnn := HN.out
                  have hp := HPA.out.1
                  have hf := HFA.out
                  rw [blk_app (l := fs.drop a) (by omega) (by omega), List.drop_drop, blk_end (l := fs.drop (a + s)) (by simp; omega)] at hf
                  have h1 := symOk _ wr B g cap PA (srt ltF ((fs.drop a).take s)) (srt ltF (fs.drop (a + s))) [] a (a + s) N N (Nat.le_refl _) (by simpa using hf)
                    (by simp [length_srt]; omega) hp.symm (by simp [length_srt]; omega) (by simp [length_srt]; omega) (by simp [length_srt]; omega) (by simp [length_srt]; omega) hl (ris_srt ordF _) (ris_srt ordF _)
                  rw [← srt_append ordF, show fs.drop (a + s) = (fs.drop a).drop s by rw [List.drop_drop], List.take_append_drop] at h1
                  rw [← HPA.out.2, blk_end (l := fs.drop a) (by omega)]
                  simpa using h1)
                clear hX
                go_wp2_with (go_at_call 90; refine HC.out.mono ?_; rintro e w' ⟨rfl, hf, hg⟩; have HF2 := Lib.hid hf; have HG2 := Lib.hid hg; clear hf hg)
                go_roundw
                case rel => exact ⟨2 * s, by congr 1; omega, by omega, by omega, HF2.out, grown_again HGA.out HG2.out⟩
                case measure => simp [intOf]; omega
              · have hmz : ¬ (a : Int) + (s : Int) < (N : Int) := by omega
                have HF2 : Hid (FlAt wr B g cap (blk ltF (2 * s) fs)) := Lib.hid (by
                  have hf := HFA.out
                  rw [blk_end (l := fs.drop a) (by omega)] at hf
                  rw [← HPA.out.2, blk_end (l := fs.drop a) (by omega)]
                  exact hf)
                clear hX
                go_wp2
                go_roundw
                case rel => exact ⟨2 * s, by congr 1; omega, by omega, by omega, HF2.out, HGA.out⟩
                case measure => simp [intOf]; omega
        · go_wp2
          go_end0
          refine ⟨rfl, ?_, HGR.out⟩
          have hf := HFL.out
          rwa [blk_end (by have := HN.out; omega)] at hf

theorem insF_srt (fs : List Fld) : insF fs = srt ltF fs := by
  have := insSort_list ordF [] fs [] (a := 0) (b := fs.length) rfl (by simp)
  have e : ltF = Go.Proofs.ltOf fldCmp := rfl
  rw [e] at this ⊢
  simpa [insF] using this

set_option maxRecDepth 100000 in
theorem sort_any (W : World) (B : Nat) (v : Value) (fs : List Fld) (h : W.ownsRow B 37 5 v fs.length (fldCells fs)) (hl : fs.length ≤ 1099511627776) :
    Calls Try.prog 72 #[v, .func (.func 73) #[] #[]] W (SrtPost B v fs W) := by
  by_cases h20 : fs.length < 20
  · exact sort_few W B v fs h h20
  · obtain ⟨g, cap, cur, rfl, _⟩ := own_some h (by omega)
    have HI := Lib.hid (stable_many W B g cap fs fs.length h rfl hl)
    clear h
    generalize hn : fs.length = n at *
    have HN := Lib.hid hn
    clear hn
    go_enter Try.func72, Try.ntmps72
    go_wp2_with (go_at_call 82; refine HI.out.mono ?_; rintro e w' ⟨rfl, hf, hg⟩; have HF := Lib.hid hf; have HG := Lib.hid hg; clear hf hg)
    go_end0
    refine ⟨rfl, ?_, HG.out⟩
    have hf := HF.out
    unfold FlAt at hf
    rw [length_srt] at hf
    rw [insF_srt, HN.out]
    rw [HN.out] at hf
    exact hf
end Go.Proofs.Ytaaohaihajccgaa
