import Derived.Test.YtmjijmkdeblefaaLxB
namespace Go.Proofs.Ytmjijmkdeblefaa
open Go.RowKit RM LM
set_option linter.unusedVariables false

def strV (l : List UInt8) : Value := .string ⟨l.toArray⟩
/-- A slice of texts. -/
def Strs (w : World) (a : Option Addr) (cap : Nat) (ls : List (List UInt8)) : Prop := SlV w 1 a ls.length cap (ls.map strV)

theorem Strs.below {w w' : World} {a : Option Addr} {cap : Nat} {ls : List (List UInt8)} (h : Strs w a cap ls) (hb : Below w.heap.size w w') : Strs w' a cap ls := SlV.below h hb
theorem Strs.at_ {w : World} {a : Option Addr} {cap k : Nat} {ls : List (List UInt8)} (h : Strs w a cap ls) (hk : k < ls.length) :
    ∃ b off, a = some ⟨b, off, none⟩ ∧ b < w.heap.size ∧ w.cell? ⟨b, off + k, none⟩ = some (strV ls[k]) := by
  rcases h.rd with h0 | ⟨b, off, h1, h2, h3⟩
  · have := congrArg List.length h0
    simp at this
    subst this
    simp at hk
  · exact ⟨b, off, h1, h2, h3 k _ (by rw [List.getElem?_map, List.getElem?_eq_getElem hk]; rfl)⟩

theorem str_beq (l : List UInt8) (s : ByteArray) : ((⟨l.toArray⟩ : ByteArray).toList == s.toList) = (l == s.toList) := by rw [ByteArray.toList_mk]

set_option maxRecDepth 100000 in
theorem in_any (a : Option Addr) (cap : Nat) (ls : List (List UInt8)) (s : ByteArray) (w : World) (h : Strs w a cap ls) (hl : ls.length ≤ 1000) :
    Calls Try.prog 113 #[.slice a ls.length cap, .string s] w fun e w' => e = .returned (.bool (ls.any (s.toList == ·))) ∧ w = w' := by
  have hcap := h.le
  have hmax := h.mx
  have HS := Lib.hid h
  clear h
  go_enter Try.func113, Try.ntmps113
  go_wp2
  go_loop [5] (fun i => ∃ k : Nat, k ≤ ls.length ∧ i = .int .i64 k ∧ Hid (∀ j (hj : j < ls.length), j < k → (s.toList == ls[j]) = false)) (fun i => ls.length - (intOf i).toNat)
  case atStart => exact ⟨0, by omega, rfl, fun j hj hk => by omega⟩
  case round =>
    obtain ⟨k, hk, rfl, hgood⟩ := hrel
    by_cases hlt : k < ls.length
    · obtain ⟨b, off, rfl, hb, hc⟩ := HS.out.at_ hlt
      unfold strV at hc
      by_cases he : (s.toList == ls[k]) = true
      · have he' : (ls[k] == s.toList) = true := by simp at he ⊢; exact he.symm
        have HF := Lib.hid (show ls.any (s.toList == ·) = true from List.any_eq_true.2 ⟨ls[k], List.getElem_mem hlt, he⟩)
        clear he
        go_wp2
        go_ret
        exact ⟨ret_bool HF.out.symm, rfl⟩
      · have he' : (ls[k] == s.toList) = false := by simp at he ⊢; exact fun h => he h.symm
        have HE := Lib.hid (show (s.toList == ls[k]) = false by simpa using he)
        clear he
        go_wp2
        go_round
        case rel =>
          refine ⟨k + 1, by omega, by go_num, fun j hj hjk => ?_⟩
          by_cases e : j < k
          · exact hgood.out j hj e
          · obtain rfl : j = k := by omega
            exact HE.out
        case measure => simp [intOf]; omega
    · have HF := Lib.hid (show ls.any (s.toList == ·) = false by
        rw [List.any_eq_false]
        intro x hx
        obtain ⟨i, hi, rfl⟩ := List.mem_iff_getElem.1 hx
        simp [hgood.out i hi (by omega)])
      go_wp2
      go_ret
      exact ⟨ret_bool HF.out.symm, rfl⟩

/-- What Own answers. -/
def OwnPost (w : World) (e : Ending) (w' : World) : Prop :=
  ∃ a b, e = .returned (.tuple #[.slice a 15 15, .slice b 25 25]) ∧ Strs w' a 15 kwL ∧ Strs w' b 25 signL ∧ Below w.heap.size w w'

theorem own_fin (w : World) : OwnPost w (.returned (.tuple #[.slice (some ⟨w.heap.size, 0, none⟩) 15 15, .slice (some ⟨w.heap.size + 1, 0, none⟩) 25 25]))
    ((w.alloc (.cells (kwL.map strV).toArray 9)).alloc (.cells (signL.map strV).toArray 9)) := by
  have h1 := slV_alloc w 9 (size := 1) (n := 15) (xs := kwL.map strV) (by omega) rfl
  have h2 := slV_alloc (w.alloc (.cells (kwL.map strV).toArray 9)) 9 (size := 1) (n := 25) (xs := signL.map strV) (by omega) rfl
  have hz : (w.alloc (.cells (kwL.map strV).toArray 9)).heap.size = w.heap.size + 1 := by simp
  rw [hz] at h2
  refine ⟨_, _, rfl, h1.below ((Below.refl _ _).alloc (by simp) _), h2, ((Below.refl _ _).alloc (by simp) _).alloc (by simp) _⟩

theorem Own_any (w : World) : Calls Try.prog 111 #[] w (OwnPost w) := by
  go_enter Try.func111, Try.ntmps111
  go_wp2
  go_ret2
  exact own_fin w

/-- A byte at a place of a name. -/
def fitC (s : ByteArray) (j : Nat) (hj : j < s.size) : Prop := nameC s[j] = true ∧ (j = 0 → su s[j] = 5)
theorem fit_name {s : ByteArray} (h0 : 0 < s.size) (h : ∀ j (hj : j < s.size), fitC s j hj) : nameL s.toList = true := by
  rw [nameL_head h0, data_all fun j hj => (h j hj).1, (h 0 h0).2 rfl]; rfl
theorem unfit_name {s : ByteArray} {j : Nat} (hj : j < s.size) (h : ¬ fitC s j hj) : nameL s.toList = false := by
  rw [nameL_head (by omega)]
  by_cases hn : nameC s[j] = true
  · by_cases e : j = 0
    · subst e
      have : ¬ su s[0] = 5 := fun h' => h ⟨hn, fun _ => h'⟩
      simp [this]
    · exact absurd ⟨hn, fun h' => absurd h' e⟩ h
  · rw [data_not hj (by simpa using hn)]; simp
theorem ku_su (c : UInt8) : ku c = if su c = 5 then 1 else if su c = 6 then 2 else if su c = 4 then 3 else if su c = 7 then 4 else 0 := kind_of_sort _
theorem nameC_ku (c : UInt8) : nameC c = true ↔ ku c = 1 ∨ ku c = 3 ∨ ku c = 4 := by
  rw [ku_su]
  unfold nameC
  simp only [Bool.or_eq_true, beq_iff_eq]
  repeat' split
  all_goals omega
theorem small_ku (c : UInt8) : su c = 5 ↔ ku c = 1 := by
  rw [ku_su]
  repeat' split
  all_goals omega
theorem fit_ku (s : ByteArray) (j : Nat) (hj : j < s.size) : fitC s j hj ↔ (ku s[j] = 1 ∨ (j ≠ 0 ∧ (ku s[j] = 3 ∨ ku s[j] = 4))) := by
  unfold fitC
  rw [nameC_ku, small_ku]
  by_cases e : j = 0
  · subst e; simp only [forall_const, ne_eq, not_true, false_and, or_false]; omega
  · simp [e]

set_option maxRecDepth 100000 in
set_option maxHeartbeats 1000000 in
theorem Wordly_any (s : ByteArray) (w : World) (hs : s.size ≤ 9223372036854775807) :
    Calls Try.prog 112 #[.string s] w fun e w' => e = .returned (.bool (nameL s.toList)) ∧ w = w' := by
  go_enter Try.func112, Try.ntmps112
  go_wp2
  go_loop [3, 4] (fun i _ => ∃ k : Nat, k ≤ s.size ∧ i = .int .i64 k ∧ Hid (∀ j (hj : j < s.size), j < k → fitC s j hj)) (fun i _ => s.size - (intOf i).toNat)
  case atStart => exact ⟨0, by omega, rfl, fun j hj hk => by omega⟩
  case round =>
    obtain ⟨k, hk, rfl, hgood⟩ := hrel
    by_cases hlt : k < s.size
    · have hf := fit_ku s k hlt
      have hb := kind_bd (s[k].toNat : Int)
      have hb' : ku s[k] = 0 ∨ ku s[k] = 1 ∨ ku s[k] = 2 ∨ ku s[k] = 3 ∨ ku s[k] = 4 := by unfold ku; omega
      have HC := Lib.hid (kind_byte s[k] w)
      generalize hx : ku s[k] = x at *
      clear hx hb
      by_cases e0 : k = 0
      · subst e0
        by_cases g : fitC s 0 hlt
        · have HG := Lib.hid g
          have hx : x = 1 := by have := hf.1 g; omega
          subst hx
          clear hf hb' g
          go_wp2_with (go_at_call 127; refine HC.out.mono ?_; rintro e w' ⟨rfl, rfl⟩)
          go_round
          case rel =>
            refine ⟨1, by omega, by go_num, fun j hj hjk => ?_⟩
            obtain rfl : j = 0 := by omega
            exact HG.out
          case measure => simp [intOf]; omega
        · have HF := Lib.hid (unfit_name hlt g)
          have hx : x = 0 ∨ x = 2 ∨ x = 3 ∨ x = 4 := by
            rcases hb' with h | h | h | h | h
            · exact .inl h
            · exact absurd (hf.2 (.inl h)) g
            · exact .inr (.inl h)
            · exact .inr (.inr (.inl h))
            · exact .inr (.inr (.inr h))
          clear hf hb' g
          rcases hx with rfl | rfl | rfl | rfl
          all_goals
            go_wp2_with (go_at_call 127; refine HC.out.mono ?_; rintro e w' ⟨rfl, rfl⟩)
            go_ret
            exact ⟨ret_bool HF.out.symm, rfl⟩
      · have e0' : ((k : Int) == 0) = false := by simp; omega
        by_cases g : fitC s k hlt
        · have HG := Lib.hid g
          have hx : x = 1 ∨ x = 3 ∨ x = 4 := by have := hf.1 g; omega
          clear hf hb' g
          rcases hx with rfl | rfl | rfl
          all_goals
            go_wp2_with (go_at_call 127; refine HC.out.mono ?_; rintro e w' ⟨rfl, rfl⟩)
            go_round
            case rel =>
              refine ⟨k + 1, by omega, by go_num, fun j hj hjk => ?_⟩
              by_cases e : j < k
              · exact hgood.out j hj e
              · obtain rfl : j = k := by omega
                exact HG.out
            case measure => simp [intOf]; omega
        · have HF := Lib.hid (unfit_name hlt g)
          have hx : x = 0 ∨ x = 2 := by
            rcases hb' with h | h | h | h | h
            · exact .inl h
            · exact absurd (hf.2 (.inl h)) g
            · exact .inr h
            · exact absurd (hf.2 (.inr ⟨e0, .inl h⟩)) g
            · exact absurd (hf.2 (.inr ⟨e0, .inr h⟩)) g
          clear hf hb' g
          rcases hx with rfl | rfl
          all_goals
            go_wp2_with (go_at_call 127; refine HC.out.mono ?_; rintro e w' ⟨rfl, rfl⟩)
            go_ret
            exact ⟨ret_bool HF.out.symm, rfl⟩
    · by_cases h0 : 0 < s.size
      · have HF := Lib.hid (fit_name h0 fun j hj => hgood.out j hj (by omega))
        go_wp2_with fail
        go_ret
        exact ⟨ret_bool (by rw [HF.out]), rfl⟩
      · have HF := Lib.hid (show nameL s.toList = false by rw [data_nil (by omega)]; rfl)
        go_wp2_with fail
        go_ret
        exact ⟨ret_bool (by rw [HF.out]), rfl⟩

theorem refWord_any (s : ByteArray) (w : World) (hs : s.size ≤ 9223372036854775807) :
    Calls Try.prog 90 #[.string s] w fun e w' => e = .returned (.bool (wordL s.toList)) ∧ Below w.heap.size w w' := by
  have hw : wordL s.toList = (decide (s.size ≤ 32) && nameL s.toList && !kwL.any (s.toList == ·)) := by unfold wordL kw; rw [data_len]
  have HN := Lib.hid (fun w => Wordly_any s w hs)
  have HI := Lib.hid (fun a w h => in_any a 15 kwL s w h (by decide))
  have HW := Lib.hid hw
  clear hw
  generalize nameL s.toList = n at *
  generalize kwL.any (s.toList == ·) = k at *
  cases n <;> cases k
  all_goals
    go_enter Try.func90, Try.ntmps90
    go_wp2_with (first | (go_at_call 111; refine (Own_any _).mono ?_; rintro e w1 ⟨a, b, rfl, h1, h2, h3⟩; have H1 := Lib.hid h1; clear h1 h2) | (go_at_call 112; refine (HN.out _).mono ?_; rintro e w' ⟨rfl, rfl⟩) | (go_at_call 113; refine (HI.out _ _ H1.out).mono ?_; rintro e w' ⟨rfl, rfl⟩))
    go_ret
    refine ⟨ret_bool ?_, h3⟩
    rw [HW.out]
    first | rfl | (simp; done) | (simp; omega)
end Go.Proofs.Ytmjijmkdeblefaa
