/- alive, of the tree's laws. -/
import Derived.Test.YtcjhgefkbnbmnaaPTmY
namespace Go.Proofs.Ytcjhgefkbnbmnaa
open Go.RowKit LM
set_option linter.unusedVariables false

def exTH (op : Int) (name arg : ByteArray) : TH := ⟨op, name, arg, 0, false, ⟨0, ⟨#[]⟩, 0⟩, .nil⟩
def exF : TH := exTH 32 ⟨#[102]⟩ ⟨#[]⟩
def exX : TH := exTH 32 ⟨#[120]⟩ ⟨#[]⟩
def exP : TH := exTH 37 ⟨#[]⟩ ⟨#[]⟩
def exL : TH := exTH 35 ⟨#[]⟩ ⟨#[120]⟩
def exPk : TF := .cons exF .nil (.cons exX .nil .nil)
def exLk : TF := .cons exP exPk .nil
theorem exTH_ok (op : Int) (name arg : ByteArray) (h0 : 0 ≤ op) (h1 : op ≤ 255) (hn : name.size ≤ 1) (ha : arg.size ≤ 1) : (exTH op name arg).ok :=
  ⟨h0, h1, Nat.le_trans hn (by decide), Nat.le_trans ha (by decide), by show (-9223372036854775808 : Int) ≤ 0; decide, by show (0 : Int) ≤ 9223372036854775807; decide, ⟨Int.le_refl 0, by show (0 : Int) ≤ 255; decide, by show (0 : Nat) ≤ maxLen; decide, by show (-9223372036854775808 : Int) ≤ 0; decide, by show (0 : Int) ≤ 9223372036854775807; decide⟩, trivial⟩
theorem exL_right : trightB exL exLk = true := by kernel_rfl
theorem exL_free : freeT exL exLk (fun _ => 0) [] = [[102]] := by kernel_rfl
theorem exL_frees : freeS exL exLk = [[102]] := by unfold freeS; rw [exL_free]; simp

/-- The ten values of a node of the example. -/
def exV (op : Int) (name arg : ByteArray) (q : Option Addr) (n : Nat) : List Value := [.int .u8 op, .string name, .string arg, .int .i64 0, .bool false, .int .u8 0, .string ⟨#[]⟩, .int .i64 0, .slice none 0 0, .slice q n n]
theorem ex_thAt {w : World} {b o : Nat} {cs : Array Value} {t : TypeId} {op : Int} {name arg : ByteArray} {q : Option Addr} {n : Nat} (h : w.heap[b]? = some (.cells cs t (0, 0))) (hc : (cs.toList.drop o).take 10 = exV op name arg q n) (hn : n ≤ maxLen) : THAt w b o (exTH op name arg) none 0 q n n := by
  have hg : ∀ i (v : Value), i < 10 → (exV op name arg q n)[i]? = some v → w.cell? ⟨b, o + i, none⟩ = some v := fun i v hi hv => by
    rw [← hc, List.getElem?_take, if_pos hi, List.getElem?_drop] at hv
    simp only [World.cell?, h]
    simpa using hv
  exact ⟨hg 0 _ (by omega) rfl, hg 1 _ (by omega) rfl, hg 2 _ (by omega) rfl, hg 3 _ (by omega) rfl, hg 4 _ (by omega) rfl, hg 5 _ (by omega) rfl, hg 6 _ (by omega) rfl, hg 7 _ (by omega) rfl, hg 8 _ (by omega) rfl, hg 9 _ (by omega) rfl, Nat.le_refl _, hn⟩
theorem ex_tsl {w : World} {b b2 : Nat} {t : TypeId} (h1 : w.heap[b]? = some (.cells (exV 32 ⟨#[102]⟩ ⟨#[]⟩ none 0 ++ exV 32 ⟨#[120]⟩ ⟨#[]⟩ none 0).toArray t (0, 0))) (h2 : w.heap[b2]? = some (.cells (exV 37 ⟨#[]⟩ ⟨#[]⟩ (some ⟨b, 0, none⟩) 2).toArray t (0, 0))) : TSl w (some ⟨b2, 0, none⟩) 1 exLk := by
  refine ⟨Nat.le_refl _, by decide, fun _ => ⟨b2, 0, rfl, none, 0, some ⟨b, 0, none⟩, 2, ex_thAt h2 rfl (by decide), slF_nil _, fun _ => ⟨b, 0, rfl, none, 0, none, 0, ex_thAt h1 rfl (by decide), slF_nil _, fun h => absurd h (Nat.lt_irrefl _), none, 0, none, 0, ex_thAt h1 rfl (by decide), slF_nil _, fun h => absurd h (Nat.lt_irrefl _), trivial⟩, trivial⟩⟩

set_option maxRecDepth 100000 in
set_option maxHeartbeats 4000000 in
theorem talive_any (w : World) : Calls Try.prog 31 #[] w fun e w' => e = .returned (.bool true) ∧ Below w.heap.size w w' := by
  have HF := Lib.hid fun (W : World) b (hs : TSl W (some ⟨b, 0, none⟩) 1 exLk) => Free_yes exL exLk none 0 (some ⟨b, 0, none⟩) 1 W (exTH_ok _ _ _ (by decide) (by decide) (by decide) (by decide)) ⟨exTH_ok _ _ _ (by decide) (by decide) (by decide) (by decide), ⟨exTH_ok _ _ _ (by decide) (by decide) (by decide) (by decide), trivial, exTH_ok _ _ _ (by decide) (by decide) (by decide) (by decide), trivial, trivial⟩, trivial⟩ (slF_nil _) hs (by decide) exL_right
  have HS : Hid (∃ W b, W = (((w.alloc (.cells (exV 32 ⟨#[102]⟩ ⟨#[]⟩ none 0 ++ exV 32 ⟨#[120]⟩ ⟨#[]⟩ none 0).toArray 43)).alloc (.cells (exV 37 ⟨#[]⟩ ⟨#[]⟩ (some ⟨w.heap.size, 0, none⟩) 2).toArray 43)).alloc (.cells (exV 37 ⟨#[]⟩ ⟨#[]⟩ (some ⟨w.heap.size, 0, none⟩) 2).toArray 43)) ∧ b = w.heap.size + 1 + 1 ∧ TSl W (some ⟨b, 0, none⟩) 1 exLk ∧ Below w.heap.size w W) := Lib.hid ⟨_, _, rfl, rfl, ex_tsl (((below_box _ _).block _ (by simp; omega)).trans (((below_box _ _).block _ (by simp)).trans (World.alloc_heap_new w _))) (by have := World.alloc_heap_new ((w.alloc (.cells (exV 32 ⟨#[102]⟩ ⟨#[]⟩ none 0 ++ exV 32 ⟨#[120]⟩ ⟨#[]⟩ none 0).toArray 43)).alloc (.cells (exV 37 ⟨#[]⟩ ⟨#[]⟩ (some ⟨w.heap.size, 0, none⟩) 2).toArray 43)) (.cells (exV 37 ⟨#[]⟩ ⟨#[]⟩ (some ⟨w.heap.size, 0, none⟩) 2).toArray 43); simpa only [World.size_alloc] using this), ((Below.refl _ _).alloc (Nat.le_refl _) _).alloc (by simp) _ |>.alloc (by simp; omega) _⟩
  go_enter Try.func31, Try.ntmps31
  go_wp2_with fail
  obtain ⟨W, b, hW, hb, hts, hbw⟩ := HS.out
  have HC := Lib.hid (HF.out W b hts)
  rw [exL_frees] at HC
  subst hb
  have HBW := Lib.hid hbw
  clear hts hbw HS HF
  have hc : ∀ Q, Calls Try.prog 41 #[.agg (tmV exL none 0 (some ⟨w.heap.size + 1 + 1, 0, none⟩) 1 1)] W Q → Calls Try.prog 41 #[.agg (tmV exL none 0 (some ⟨w.heap.size + 1 + 1, 0, none⟩) 1 1)] (((w.alloc (.cells (exV 32 ⟨#[102]⟩ ⟨#[]⟩ none 0 ++ exV 32 ⟨#[120]⟩ ⟨#[]⟩ none 0).toArray 43)).alloc (.cells (exV 37 ⟨#[]⟩ ⟨#[]⟩ (some ⟨w.heap.size, 0, none⟩) 2).toArray 43)).alloc (.cells (exV 37 ⟨#[]⟩ ⟨#[]⟩ (some ⟨w.heap.size, 0, none⟩) 2).toArray 43)) Q := fun Q h => by rw [← hW]; exact h
  clear hW
  refine hc _ ?_
  clear hc
  refine HC.out.mono ?_
  rintro e w1 ⟨a, c, rfl, htx, hb1⟩
  have hx := World.alloc_heap_new w1 (.cells #[.string ⟨#[102]⟩] 9)
  have htx2 : TxAt (w1.alloc (.cells #[.string ⟨#[102]⟩] 9)) (some ⟨w1.heap.size, 0, none⟩) 1 [[102]] := ⟨Nat.le_refl _, by decide, fun _ => ⟨_, 0, rfl, by simp, fun i hi => by
    have : i = 0 := by simp at hi; omega
    subst this
    rw [World.cell?]
    simp only [Nat.add_zero, hx]
    rfl⟩⟩
  have HT := Lib.hid (Texts_any [[102]] [[102]] a _ c 1 _ (htx.below (below_box w1 _)) htx2 (by decide) (by decide))
  have HB1 := Lib.hid (below_go2 HBW.out (below_go2 hb1 (below_box w1 (.cells #[.string ⟨#[102]⟩] 9))))
  clear htx htx2 hx hb1
  simp only [List.length_cons, List.length_nil, Nat.reduceAdd] at HT ⊢
  go_wp2_with fail
  refine HT.out.mono ?_
  rintro e w2 ⟨r, rfl, hr, hb2⟩
  have hr2 : r = true := hr.2 (by first | rfl | trivial)
  subst hr2
  have HB2 := Lib.hid (below_go2 HB1.out hb2)
  clear hb2 hr
  go_wp2
  go_ret
  exact ⟨rfl, HB2.out⟩
end Go.Proofs.Ytcjhgefkbnbmnaa
