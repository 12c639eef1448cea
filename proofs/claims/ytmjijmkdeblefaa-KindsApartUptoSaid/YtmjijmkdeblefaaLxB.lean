import Derived.Test.YtmjijmkdeblefaaLxA
import Derived.Deep.QuietTactic
import Derived.BigQuiet
import Derived.Laws.MakeOwn
import Derived.Deep.Draws
namespace Go.Proofs.Ytmjijmkdeblefaa
open Go.RowKit RM LM
set_option linter.unusedVariables false

theorem data_get (s : ByteArray) (k : Nat) (h : k < s.size) : s.toList[k]? = some s[k] := by
  rw [ByteArray.toList_eq, Array.getElem?_toList]
  exact Array.getElem?_eq_getElem h
theorem data_len (s : ByteArray) : s.toList.length = s.size := by rw [ByteArray.toList_eq]; rfl
theorem data_all {s : ByteArray} {p : UInt8 → Bool} (h : ∀ j (hj : j < s.size), p s[j] = true) : s.toList.all p = true := by
  rw [List.all_eq_true]
  intro x hx
  obtain ⟨i, e⟩ := List.mem_iff_getElem?.1 hx
  have hi := (List.getElem?_eq_some_iff.1 e).1
  rw [data_len] at hi
  rw [data_get s i hi] at e
  cases e
  exact h i hi
theorem data_not {s : ByteArray} {p : UInt8 → Bool} {j : Nat} (hj : j < s.size) (h : p s[j] = false) : s.toList.all p = false := by
  rw [List.all_eq_false]
  exact ⟨s[j], List.mem_of_getElem? (data_get s j hj), by simp [h]⟩
theorem data_head {s : ByteArray} (h : 0 < s.size) : ∃ r, s.toList = s[0] :: r := by
  have := data_get s 0 h
  cases hl : s.toList with
  | nil => rw [hl] at this; simp at this
  | cons c r => rw [hl] at this; simp at this; exact ⟨r, by rw [this]⟩
theorem data_nil {s : ByteArray} (h : s.size = 0) : s.toList = [] := List.length_eq_zero_iff.1 (by rw [data_len]; exact h)
theorem nameL_head {s : ByteArray} (h : 0 < s.size) : nameL s.toList = (su s[0] == 5 && s.toList.all nameC) := by
  obtain ⟨r, e⟩ := data_head h
  rw [e]; rfl

theorem hasName_any (s : ByteArray) (w : World) (hs : s.size ≤ 9223372036854775807) :
    Calls Try.prog 131 #[.string s] w fun e w' => e = .returned (.bool (nameL s.toList)) ∧ w = w' := by
  by_cases h0 : 0 < s.size
  · have he : (s.toList == []) = false := by
      obtain ⟨r, e⟩ := data_head h0
      rw [e]; rfl
    have HE := Lib.hid (nameL_head h0)
    by_cases h1 : su s[0] = 5
    · have h1' : (su s[0] != 5) = false := by simp [h1]
      have HA : Hid (nameL s.toList = s.toList.all nameC) := by rw [HE.out, h1]; rfl
      clear h1
      go_enter Try.func131, Try.ntmps131
      go_wp2_with (go_at_call 148; refine (sortOf_byte _ _).mono ?_; rintro e w' ⟨rfl, rfl⟩)
      go_loop [3, 14] (fun _ i => ∃ k : Nat, k ≤ s.size ∧ i = .int .i64 k ∧ Hid (∀ j (hj : j < s.size), j < k → nameC s[j] = true)) (fun _ i => s.size - (intOf i).toNat)
      case atStart => exact ⟨0, by omega, rfl, fun j hj hk => by omega⟩
      case round =>
        obtain ⟨k, hk, rfl, hgood⟩ := hrel
        by_cases hlt : k < s.size
        · by_cases hn : nameC s[k] = true
          · have HN := Lib.hid hn
            have hb := sort_bd (s[k].toNat : Int)
            have hn' : su s[k] = 5 ∨ su s[k] = 4 ∨ su s[k] = 7 := by unfold nameC at hn; simp at hn; omega
            clear hn
            have HC := Lib.hid (sortOf_byte s[k] w)
            generalize hx : su s[k] = x at *
            have HX := Lib.hid hx
            clear hx
            rcases hn' with rfl | rfl | rfl
            all_goals
              go_wp2_with (go_at_call 148; refine HC.out.mono ?_; rintro e w' ⟨rfl, rfl⟩)
              go_round
              case rel =>
                refine ⟨k + 1, by omega, by go_num, fun j hj hjk => ?_⟩
                by_cases e : j < k
                · exact hgood.out j hj e
                · obtain rfl : j = k := by omega
                  exact HN.out
              case measure => simp [intOf]; omega
          · have hn' : (su s[k] == 5) = false ∧ (su s[k] == 4) = false ∧ (su s[k] == 7) = false := by
              unfold nameC at hn; simp at hn; simp; omega
            obtain ⟨e1, e2, e3⟩ := hn'
            have HF : Hid (nameL s.toList = false) := by rw [HA.out]; exact data_not hlt (by simpa using hn)
            clear hn
            have HC := Lib.hid (sortOf_byte s[k] w)
            generalize hx : su s[k] = x at *
            clear hx
            go_wp2_with (go_at_call 148; refine HC.out.mono ?_; rintro e w' ⟨rfl, rfl⟩)
            go_ret
            exact ⟨ret_bool HF.out.symm, rfl⟩
        · have HF : Hid (nameL s.toList = true) := by rw [HA.out]; exact data_all fun j hj => hgood.out j hj (by omega)
          go_wp2_with fail
          go_ret
          exact ⟨ret_bool HF.out.symm, rfl⟩
    · have h1' : (su s[0] != 5) = true := by simp [h1]
      have HF := Lib.hid (show nameL s.toList = false by rw [HE.out]; simp [h1])
      clear h1
      go_enter Try.func131, Try.ntmps131
      go_wp2_with (go_at_call 148; refine (sortOf_byte _ _).mono ?_; rintro e w' ⟨rfl, rfl⟩)
      go_ret
      exact ⟨ret_bool HF.out.symm, rfl⟩
  · have he := data_nil (s := s) (by omega)
    have he' : (s.toList == []) = true := by rw [he]; rfl
    have HF : Hid (nameL s.toList = false) := by rw [he]; rfl
    clear he
    go_enter Try.func131, Try.ntmps131
    go_wp2
    go_ret
    exact ⟨ret_bool HF.out.symm, rfl⟩

theorem isWord_any (s : ByteArray) (w : World) (hs : s.size ≤ 9223372036854775807) :
    Calls Try.prog 118 #[.string s] w fun e w' => e = .returned (.bool (wordL s.toList)) ∧ w = w' := by
  have hw : wordL s.toList = (decide (s.size ≤ 32) && nameL s.toList && !kw s.toList) := by unfold wordL; rw [data_len]
  have HN := Lib.hid (hasName_any s w hs)
  have HK := Lib.hid (isKeyword_any s w)
  have HW := Lib.hid hw
  clear hw
  generalize nameL s.toList = n at *
  generalize kw s.toList = k at *
  by_cases h32 : s.size ≤ 32
  · have h32' : decide (s.size ≤ 32) = true := by simpa using h32
    cases n
    all_goals
      go_enter Try.func118, Try.ntmps118
      go_wp2_with (first | (go_at_call 131; refine HN.out.mono ?_; rintro e w' ⟨rfl, rfl⟩) | (go_at_call 132; refine HK.out.mono ?_; rintro e w' ⟨rfl, rfl⟩))
      go_ret
      refine ⟨ret_bool ?_, rfl⟩
      rw [HW.out, h32']
      simp
  · go_enter Try.func118, Try.ntmps118
    go_wp2_with fail
    go_ret
    refine ⟨ret_bool ?_, rfl⟩
    rw [HW.out]
    simp [h32]

/-! ### a slice that reads as cells -/
/-- The value '.slice a n cap', its elements of 'size' cells, reads in w as the cells xs. -/
structure SlV (w : World) (size : Nat) (a : Option Addr) (n cap : Nat) (xs : List Value) : Prop where
  le : n ≤ cap
  mx : cap ≤ 9223372036854775807
  len : xs.length = n * size
  rd : xs = [] ∨ ∃ b off, a = some ⟨b, off, none⟩ ∧ b < w.heap.size ∧ ∀ (j : Nat) (u : Value), xs[j]? = some u → w.cell? ⟨b, off + j, none⟩ = some u
  nil : a = none → cap = 0

theorem SlV.below {w w' : World} {size : Nat} {a : Option Addr} {n cap : Nat} {xs : List Value} (h : SlV w size a n cap xs) (hb : Below w.heap.size w w') : SlV w' size a n cap xs := by
  refine ⟨h.le, h.mx, h.len, ?_, h.nil⟩
  rcases h.rd with h1 | ⟨b, off, h1, h2, h3⟩
  · exact .inl h1
  · refine .inr ⟨b, off, h1, Nat.lt_of_lt_of_le h2 hb.size, fun j u hu => ?_⟩
    rw [hb.cell (p := ⟨b, off + j, none⟩) h2]
    exact h3 j u hu

theorem slV_alloc (w : World) (T : TypeId) {size n : Nat} {xs : List Value} (hm : n ≤ 9223372036854775807) (hl : xs.length = n * size) :
    SlV (w.alloc (.cells xs.toArray T)) size (some ⟨w.heap.size, 0, none⟩) n n xs := by
  refine ⟨Nat.le_refl _, hm, hl, .inr ⟨_, 0, rfl, by simp, fun j u hu => ?_⟩, fun h => by cases h⟩
  rw [World.cell?_alloc_at _ _ _ _ rfl, Nat.zero_add, List.getElem?_toArray]
  exact hu

theorem slV_owns {w : World} {base T size n : Nat} {v : Value} {xs : List Value} (h : w.ownsRow base T size v n xs) : ∃ a cap, v = .slice a n cap ∧ SlV w size a n cap xs := by
  have hl := h.1
  rcases h.2 with ⟨rfl, rfl⟩ | ⟨g, cap, cur, rfl, hg, hh, hnc, hcm, hcs, htk⟩
  · exact ⟨_, _, rfl, by omega, by omega, by simpa using hl, .inl (List.length_eq_zero_iff.1 (by simpa using hl)), fun _ => rfl⟩
  · refine ⟨_, cap, rfl, hnc, by unfold maxLen at hcm; omega, hl, .inr ⟨g, 0, rfl, ?_, fun j u hu => ?_⟩, fun h => by cases h⟩
    · by_cases hlt : g < w.heap.size
      · exact hlt
      · rw [Array.getElem?_eq_none (by omega)] at hh; cases hh
    · have e1 : cur[j]? = some u := by
        rw [← htk, List.getElem?_take] at hu
        split at hu
        · rw [← Array.getElem?_toList, hu]
        · cases hu
      unfold World.cell?
      simp only [hh, Nat.zero_add]
      simpa using e1
end Go.Proofs.Ytmjijmkdeblefaa
