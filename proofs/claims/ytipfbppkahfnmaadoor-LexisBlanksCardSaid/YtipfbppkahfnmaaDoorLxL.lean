import Derived.Test.YtipfbppkahfnmaaDoorLxJ
import Derived.Test.YtipfbppkahfnmaaDoorLxQ
import Derived.Lib.SlBytesConst
import Derived.Lib.SmallJoins
namespace Go.Proofs.YtipfbppkahfnmaaDoor
open Go.RowKit RM LM
set_option linter.unusedVariables false

def aliveL : List Int := [120, 61, 62, 49, 32, 35, 32, 111, 110, 101]
def aliveT : List Tok := [⟨1, ⟨#[120]⟩, 0, 0⟩, ⟨3, ⟨#[61, 62]⟩, 0, 1⟩, ⟨2, ⟨#[]⟩, 1, 3⟩, ⟨4, ⟨#[]⟩, 0, 10⟩]

theorem wrL_ascii {l : List Int} (h : ∀ x ∈ l, 0 ≤ x ∧ x < 128) : wrL l = -1 := by
  induction l with
  | nil => exact wrL_nil
  | cons c r ih =>
    have hc := h c (by simp)
    obtain ⟨e1, e2⟩ := ascii hc.1 hc.2
    have := wrL_cons e1 r
    rw [e2] at this
    rw [show c :: r = [c] ++ r from rfl, this, ih (fun x hx => h x (by simp [hx])), if_neg (by omega)]

theorem alive_toks : toksV aliveL = (aliveT, 0, 0) := by
  have h0 := TMet.start (l := aliveL) (by decide)
  have e1 : (strOfNums [120]).toList = [120] := by rw [ByteArray.toList_eq]; rfl
  have p1 : pieceV (aliveL.drop 0) = (⟨1, strOfNums [120], 0, 0⟩, ((1 : Nat) : Int), 0) := by
    have hr : runV (aliveL.drop 0) = [120] := by decide
    have := piece_run (l := aliveL.drop 0) (by decide) (t := ⟨1, strOfNums [120], 0, 0⟩) (by rw [hr]; exact runTk_word (by rw [e1]; decide) (by rw [e1]; decide) (by rw [e1]; decide) (by rw [e1]; decide))
    rw [hr] at this
    exact this
  have h1 := h0.tok (by decide) p1 (by decide)
  have p2 : pieceV (aliveL.drop 1) = (⟨3, strOfNums [61, 62], 0, 0⟩, ((2 : Nat) : Int), 0) := piece_mark (l := aliveL.drop 1) (by decide)
  have h2 := h1.tok (by decide) p2 (by decide)
  have e2 : (strOfNums [49]).toList = [49] := by rw [ByteArray.toList_eq]; rfl
  have p3 : pieceV (aliveL.drop 3) = (⟨2, ⟨#[]⟩, 1, 0⟩, ((1 : Nat) : Int), 0) := by
    have hr : runV (aliveL.drop 3) = [49] := by decide
    have := piece_run (l := aliveL.drop 3) (by decide) (t := ⟨2, ⟨#[]⟩, 1, 0⟩) (by rw [hr]; exact runTk_num (by rw [e2]; decide) (by rw [e2]; decide) (by rw [e2]; decide))
    rw [hr] at this
    exact this
  have h3 := h2.tok (by decide) p3 (by decide)
  have p4 : pieceV (aliveL.drop 4) = (zT, ((1 : Nat) : Int), 0) := piece_blank (l := aliveL.drop 4) (by decide)
  have h4 := h3.none (by decide) p4 rfl
  have p5 : pieceV (aliveL.drop 5) = (zT, ((5 : Nat) : Int), 0) := by
    have ht : tw (aliveL.drop 5) = [35, 32, 111, 110, 101] := by decide
    have hw : wrL [35, 32, 111, 110, 101] = -1 := wrL_ascii (by decide)
    rw [piece_hash (l := aliveL.drop 5) (by decide)]
    unfold remV
    rw [ht, hw]
    rfl
  have h5 := h4.none (by decide) p5 rfl
  exact h5.fin (by decide)

theorem sl_mark (w : World) (l : List Int) (T : TypeId) (fr : Nat × Nat) (hm : l.length ≤ 9223372036854775807) :
    Sl .u8 (w.alloc (.cells (l.map (Value.int .u8)).toArray T fr)) (some ⟨w.heap.size, 0, none⟩) l.length l := by
  refine ⟨Nat.le_refl _, hm, .inr ⟨_, 0, rfl, by simp, fun i hi => ?_⟩, fun h => by cases h⟩
  rw [World.cell?_alloc_mark, Nat.zero_add, getD_map hi]

theorem tokSame_yes (a : Option Addr) (n cap : Nat) (ts : List Tok) (a' : Option Addr) (n' cap' : Nat) (w : World) (h : Toks w a cap ts) (h' : Toks w a' cap' ts) (hn : ts.length = n) (hn' : ts.length = n') :
    Calls Tryd.prog 10 #[.slice a n cap, .slice a' n' cap'] w fun e w' => e = .returned (.bool true) ∧ ∃ n, w' = w.drewN n := by
  subst hn
  rw [← hn']
  have := tokSame_any a cap ts a' cap' ts w h h'
  rw [decide_eq_true rfl] at this
  exact this

theorem alive_tokens (w : World) (hv : EV w) :
    Calls Tryd.prog 8 #[.slice (some ⟨w.heap.size, 0, none⟩) 10 10] (w.alloc (.cells #[.int .u8 120, .int .u8 61, .int .u8 62, .int .u8 49, .int .u8 32, .int .u8 35, .int .u8 32, .int .u8 111, .int .u8 110, .int .u8 101] 5 (10, 11)))
      fun e w' => ∃ a cap, e = .returned (.tuple #[.slice a 4 cap, .int .i64 0, .int .u8 0]) ∧ Toks w' a cap aliveT ∧ Below w.heap.size w w' := by
  have hb : Byt aliveL := by
    intro i hi
    have : i = 0 ∨ i = 1 ∨ i = 2 ∨ i = 3 ∨ i = 4 ∨ i = 5 ∨ i = 6 ∨ i = 7 ∨ i = 8 ∨ i = 9 := by simp [aliveL] at hi; omega
    rcases this with rfl | rfl | rfl | rfl | rfl | rfl | rfl | rfl | rfl | rfl <;> decide
  have hb0 : Below w.heap.size w (w.alloc (.cells #[.int .u8 120, .int .u8 61, .int .u8 62, .int .u8 49, .int .u8 32, .int .u8 35, .int .u8 32, .int .u8 111, .int .u8 110, .int .u8 101] 5 (10, 11))) := (Below.refl _ _).alloc (Nat.le_refl _) _
  have := Tokens_any (some ⟨w.heap.size, 0, none⟩) 10 aliveL _ (sl_mark w aliveL 5 (10, 11) (by decide)) hb (hv.below hb0)
  unfold ToksPost at this
  rw [alive_toks] at this
  refine this.mono ?_
  rintro e w' ⟨a, cap, he, ht, hb1⟩
  exact ⟨a, cap, he, ht, hb0.trans (hb1.mono (by simp))⟩

set_option maxRecDepth 100000 in
theorem alive_any (w : World) (hv : EV w) : Calls Tryd.prog 7 #[] w fun e w' => e = .returned (.bool true) ∧ Below w.heap.size w w' := by
  have HV := Lib.hid hv
  clear hv
  have kc := fun (w : World) (C : Array Value) (n c : Nat) => Lib.run_convert_bytes_const (P := Tryd.prog) w 22 5 C n c Tryd.underlying22 Tryd.underlying5
  go_enter Tryd.func7, Tryd.ntmps7
  go_wp2_with fail
  refine (alive_tokens w HV.out).mono ?_
  rintro e w2 ⟨a, cap, rfl, ht, hb⟩
  have HT := Lib.hid ht
  have HB := Lib.hid hb
  have hsz := hb.size
  have HT2 := Lib.hid (slV_alloc w2 37 (size := 4) (n := 4) (xs := tokCells aliveT) (by omega) rfl)
  clear ht hb kc
  go_wp2_with fail
  refine (tokSame_yes _ _ _ aliveT _ _ _ _ (HT.out.below ((Below.refl _ _).alloc (Nat.le_refl _) _)) HT2.out rfl rfl).mono ?_
  rintro e w3 ⟨rfl, n3, rfl⟩
  go_wp2_with fail
  go_ret
  exact ⟨rfl, below_dN (HB.out.alloc hsz _) _⟩

/-- THE LAW LexisWords. -/
theorem law_words (s : ByteArray) (w : World) (hs : s.size ≤ 9223372036854775807) (hv : EV w) :
    Calls Tryd.prog 4 #[.string s] w fun e w' => e = .returned (.bool true) ∧ Below w.heap.size w w' := by
  have HV := Lib.hid hv
  have HI := Lib.hid (fun w => isWord_any s w hs)
  have HR := Lib.hid (fun w => refWord_any s w hs)
  clear hv
  generalize wordL s.toList = b at *
  by_cases h5 : s.size ≤ 5000
  · cases b
    all_goals
      go_enter Tryd.func4, Tryd.ntmps4
      go_wp2_with (first | (go_at_call 7; refine (alive_any _ HV.out).mono ?_; rintro e w1 ⟨rfl, hb1⟩) | (go_at_call 11; refine (HI.out _).mono ?_; rintro e w' ⟨rfl, rfl⟩) | (go_at_call 12; refine (HR.out _).mono ?_; rintro e w2 ⟨rfl, hb2⟩))
      go_ret
      exact ⟨rfl, hb1.trans (hb2.mono hb1.size)⟩
  · go_enter Tryd.func4, Tryd.ntmps4
    go_wp2_with (first | (go_at_call 7; refine (alive_any _ HV.out).mono ?_; rintro e w1 ⟨rfl, hb1⟩))
    go_ret
    exact ⟨rfl, hb1⟩
end Go.Proofs.YtipfbppkahfnmaaDoor
