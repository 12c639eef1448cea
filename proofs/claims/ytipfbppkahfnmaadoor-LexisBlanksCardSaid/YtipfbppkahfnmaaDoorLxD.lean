import Derived.Test.YtipfbppkahfnmaaDoorLxC
import Derived.Test.YtipfbppkahfnmaaDoorShelf
import Derived.Lib.SmallJoins
namespace Go.Proofs.YtipfbppkahfnmaaDoor
open Go.RowKit RM LM
set_option linter.unusedVariables false

/-- A token's value. -/
def tokV (k : Int) (s : ByteArray) (n at_ : Int) : Value := .agg #[.int .u8 k, .string s, .int .i64 n, .int .i64 at_]
/-- What number answers. -/
def numV (l : List UInt8) : Value := if (numT l).2 = 0 then .tuple #[tokV 2 ⟨#[]⟩ (numT l).1 0, .int .u8 0] else .tuple #[tokV 0 ⟨#[]⟩ 0 0, .int .u8 (numT l).2]

theorem numV_no {l : List UInt8} {c : Int} (h : (numT l).2 = c) (h0 : c ≠ 0) : numV l = .tuple #[tokV 0 ⟨#[]⟩ 0 0, .int .u8 c] := by
  unfold numV; rw [h, if_neg h0]
theorem numV_yes {l : List UInt8} {n : Int} (h : numT l = (n, 0)) : numV l = .tuple #[tokV 2 ⟨#[]⟩ n 0, .int .u8 0] := by
  unfold numV; rw [h, if_pos rfl]

theorem lt_of_cell {w : World} {a : Addr} {v : Value} (h : w.cell? a = some v) : a.block < w.heap.size := by
  unfold World.cell? at h
  by_cases k : a.block < w.heap.size
  · exact k
  · rw [Array.getElem?_eq_none (by omega)] at h
    cases h

/-- strconv.ErrRange is an error. -/
def EV (w : World) : Prop := ∃ te pe, w.cell? ⟨2, 0, none⟩ = some (.iface te pe)
theorem EV.below {w w' : World} (h : EV w) (hb : Below w.heap.size w w') : EV w' := by
  obtain ⟨te, pe, h⟩ := h
  exact ⟨te, pe, by rw [hb.cell (p := ⟨2, 0, none⟩) (lt_of_cell h)]; exact h⟩

/-- What the world tells of a block of the call's own, behind a callee. -/
theorem own_after {w w2 : World} {T : TypeId} {vs : Array Value} (hb : Below (w.heap.size + 1) (w.alloc (.cells vs T)) w2) :
    (∀ j, w2.cell? ⟨w.heap.size, j, none⟩ = vs[j]?) ∧ (∀ j, w2.frozen? ⟨w.heap.size, j, none⟩ = false) ∧ w.heap.size < w2.heap.size ∧ Below w.heap.size w w2 := by
  have hz : (w.alloc (.cells vs T)).heap.size = w.heap.size + 1 := by simp
  have hs := hb.size
  refine ⟨fun j => ?_, fun j => ?_, by omega, ((Below.refl _ _).alloc (Nat.le_refl _) _).trans (hb.mono (by omega))⟩
  · rw [hb.cell (p := ⟨w.heap.size, j, none⟩) (by simp), World.cell?_alloc_at _ _ _ _ rfl]
  · rw [hb.frozen (p := ⟨w.heap.size, j, none⟩) (by simp)]
    exact World.frozen?_alloc_new w vs T j
theorem own_cells {w w2 : World} {T : TypeId} {v0 v1 v2 v3 : Value} (hb : Below (w.heap.size + 1) (w.alloc (.cells #[v0, v1, v2, v3] T)) w2) :
    (w2.cell? ⟨w.heap.size, 0, none⟩ = some v0 ∧ w2.cell? ⟨w.heap.size, 1, none⟩ = some v1 ∧ w2.cell? ⟨w.heap.size, 2, none⟩ = some v2 ∧ w2.cell? ⟨w.heap.size, 3, none⟩ = some v3) ∧
    (w2.frozen? ⟨w.heap.size, 0, none⟩ = false ∧ w2.frozen? ⟨w.heap.size, 1, none⟩ = false ∧ w2.frozen? ⟨w.heap.size, 2, none⟩ = false ∧ w2.frozen? ⟨w.heap.size, 3, none⟩ = false) ∧ w.heap.size < w2.heap.size ∧ Below w.heap.size w w2 := by
  obtain ⟨hc, hf, hz, hb'⟩ := own_after hb
  exact ⟨⟨hc 0, hc 1, hc 2, hc 3⟩, ⟨hf 0, hf 1, hf 2, hf 3⟩, hz, hb'⟩
theorem below_set4 {w w2 : World} (hb : Below w.heap.size w w2) (v0 v1 v2 v3 : Value) :
    Below w.heap.size w ((((w2.setCell ⟨w.heap.size, 0, none⟩ v0).setCell ⟨w.heap.size, 1, none⟩ v1).setCell ⟨w.heap.size, 2, none⟩ v2).setCell ⟨w.heap.size, 3, none⟩ v3) :=
  (((hb.setCell (Nat.le_refl _) _).setCell (Nat.le_refl _) _).setCell (Nat.le_refl _) _).setCell (Nat.le_refl _) _

theorem parse_yes (s : ByteArray) (n : Int) (w : World) (hs : s.size ≤ 100000) (h : Go.Lib.parseIntB 64 s.toList = .ok n) :
    Calls Tryd.prog 46 #[.string s, .int .i64 10, .int .i64 64] w fun e w' => e = .returned (.tuple #[.int .i64 n, .nilIface]) ∧ Below w.heap.size w w' := by
  rw [ByteArray.toList_eq] at h
  refine (Tryd.strconv_ParseInt_10_at64_ok s (by omega) n h w).mono ?_
  rintro e w' ⟨he, h | ⟨t, h⟩⟩
  · exact ⟨he, h ▸ Below.refl _ _⟩
  · exact ⟨he, h ▸ Joins.below_bytesWorld _ _ _ _ (Nat.le_refl _)⟩

/-- ParseInt tells an error. -/
def ErrPost (w : World) (e : Ending) (w' : World) : Prop := ∃ (n : Int) (N : Nat), e = .returned (.tuple #[.int .i64 n, .iface 85 (.pointer (some ⟨N, 0, none⟩))]) ∧ Below w.heap.size w w'
theorem parse_no (s : ByteArray) (w : World) (hs : s.size ≤ 100000) (h : Go.Lib.parseIntB 64 s.toList = .range) (hv : EV w) :
    Calls Tryd.prog 46 #[.string s, .int .i64 10, .int .i64 64] w (ErrPost w) := by
  rw [ByteArray.toList_eq] at h
  obtain ⟨te, pe, hv⟩ := hv
  refine (Tryd.strconv_ParseInt_10_at64_range s (by omega) h _ w hv (.inr ⟨te, pe, rfl⟩)).mono ?_
  rintro e w' ⟨N, he, _, _, hb⟩
  exact ⟨_, N, he, hb⟩

theorem num_bad {l : List UInt8} (h : numB l = false) : numV l = .tuple #[tokV 0 ⟨#[]⟩ 0 0, .int .u8 4] :=
  numV_no (c := 4) (by unfold numT; rw [if_pos h]) (by omega)
theorem num_good {s : ByteArray} (h0 : 0 < s.size) (h1 : ¬ (1 < s.size ∧ (s[0].toNat : Int) = 48)) (h : ∀ j (hj : j < s.size), su s[j] = 4) : numB s.toList = true ∧ digL s.toList = true := by
  have hd : digL s.toList = true := data_all fun j hj => by simpa using h j hj
  refine ⟨?_, hd⟩
  unfold numB
  rw [hd, data_len]
  obtain ⟨r, e⟩ := data_head h0
  rw [e]
  by_cases h2 : 1 < s.size
  · have h3 : ¬ (s[0].toNat : Int) = 48 := fun h3 => h1 ⟨h2, h3⟩
    have h4 : ¬ s[0] = 48 := fun h4 => h3 (by rw [h4]; rfl)
    simp [h4]
  · simp [h2]
theorem num_ok {l : List UInt8} (h : numB l = true) (hb : ¬ 9223372036854775807 < numL l) : numV l = .tuple #[tokV 2 ⟨#[]⟩ (numL l) 0, .int .u8 0] :=
  numV_yes (by unfold numT; rw [if_neg (by simp [h]), if_neg hb])
theorem num_big {l : List UInt8} (h : numB l = true) (hb : 9223372036854775807 < numL l) : numV l = .tuple #[tokV 0 ⟨#[]⟩ 0 0, .int .u8 7] :=
  numV_no (c := 7) (by unfold numT; rw [if_neg (by simp [h]), if_pos hb]) (by omega)
theorem num_lead {s : ByteArray} (h1 : 1 < s.size) (h2 : (s[0].toNat : Int) = 48) : numB s.toList = false := by
  obtain ⟨r, e⟩ := data_head (s := s) (by omega)
  have h3 : s[0] = 48 := UInt8.toNat_inj.1 (by show s[0].toNat = 48; omega)
  unfold numB
  rw [data_len, e, h3]
  simp [h1]
theorem num_char {s : ByteArray} {j : Nat} (hj : j < s.size) (h : su s[j] ≠ 4) : numB s.toList = false := by
  unfold numB
  rw [show digL s.toList = false from data_not hj (by simpa using h)]
  rfl

set_option maxRecDepth 100000 in
set_option maxHeartbeats 1000000 in
theorem number_any (s : ByteArray) (w : World) (hs : s.size ≤ 100000) (h0 : 0 < s.size) (hv : EV w) :
    Calls Tryd.prog 41 #[.string s] w fun e w' => e = .returned (numV s.toList) ∧ Below w.heap.size w w' := by
  by_cases h1 : 1 < s.size ∧ (s[0].toNat : Int) = 48
  · obtain ⟨h1, h2⟩ := h1
    have HF := Lib.hid (num_bad (num_lead h1 h2))
    go_enter Tryd.func41, Tryd.ntmps41
    go_wp2
    exact bodyPost_ret (v := .tuple #[tokV 0 ⟨#[]⟩ 0 0, .int .u8 4]) (by simp [results, tokV, Tryd.results41, go_sem]) rfl ⟨by rw [HF.out], (Below.refl _ _).alloc (Nat.le_refl _) _⟩
  · have HG := Lib.hid (fun h => num_good h0 h1 h)
    have h1' : 1 < s.size → ((s[0].toNat : Int) == 48) = false := fun h => by simp; exact fun h' => h1 ⟨h, h'⟩
    have HV := Lib.hid hv
    clear hv h1
    by_cases h2 : 1 < s.size
    all_goals
      first | (have h3 := h1' h2; clear h1') | clear h1'
      go_enter Tryd.func41, Tryd.ntmps41
      go_wp2
      go_loop [4, 18] (fun _ i => ∃ k : Nat, k ≤ s.size ∧ i = .int .i64 k ∧ Hid (∀ j (hj : j < s.size), j < k → su s[j] = 4)) (fun _ i => s.size - (intOf i).toNat)
      case atStart => exact ⟨0, by omega, rfl, fun j hj hk => by omega⟩
      case round =>
        obtain ⟨k, hk, rfl, hgood⟩ := hrel
        by_cases hlt : k < s.size
        · have HC := Lib.hid (fun w => sortOf_byte s[k] w)
          by_cases hx : su s[k] = 4
          · have HX := Lib.hid hx
            have hx' : (su s[k] != 4) = false := by simp [hx]
            clear hx
            go_wp2_with (go_at_call 28; refine (HC.out _).mono ?_; rintro e w' ⟨rfl, rfl⟩)
            go_round
            case rel =>
              refine ⟨k + 1, by omega, by go_num, fun j hj hjk => ?_⟩
              by_cases e : j < k
              · exact hgood.out j hj e
              · obtain rfl : j = k := by omega
                exact HX.out
            case measure => simp [intOf]; omega
          · have HF := Lib.hid (num_bad (num_char hlt hx))
            have hx' : (su s[k] != 4) = true := by simp [hx]
            clear hx
            go_wp2_with (go_at_call 28; refine (HC.out _).mono ?_; rintro e w' ⟨rfl, rfl⟩)
            exact bodyPost_ret (v := .tuple #[tokV 0 ⟨#[]⟩ 0 0, .int .u8 4]) (by simp [results, tokV, Tryd.results41, go_sem]) rfl ⟨by rw [HF.out], (Below.refl _ _).alloc (Nat.le_refl _) _⟩
        · have hg := HG.out fun j hj => hgood.out j hj (by omega)
          obtain ⟨hg1, hg2⟩ := hg
          have hp := parse_of s.toList hg2 (by obtain ⟨r, e⟩ := data_head h0; rw [e]; simp)
          by_cases hbig : 9223372036854775807 < numL s.toList
          · rw [if_pos hbig] at hp
            have HP := Lib.hid hp
            have HF := Lib.hid (num_big hg1 hbig)
            clear hp hg1 hg2 hbig
            go_wp2_with fail
            refine (parse_no s _ hs HP.out (HV.out.below ((Below.refl _ _).alloc (Nat.le_refl _) _))).mono ?_
            rintro e w2 ⟨n, N, rfl, hb2⟩
            simp at hb2
            obtain ⟨⟨hc0, hc1, hc2, hc3⟩, ⟨hf0, hf1, hf2, hf3⟩, hz, hb⟩ := own_cells hb2
            clear hb2
            go_wp2_with fail
            exact bodyPost_ret (v := .tuple #[tokV 0 ⟨#[]⟩ 0 0, .int .u8 7]) (by simp [results, tokV, Tryd.results41, go_sem, hc0, hc1, hc2, hc3]) rfl ⟨by rw [HF.out], below_set4 hb _ _ _ _⟩
          · rw [if_neg hbig] at hp
            have HP := Lib.hid hp
            have HF := Lib.hid (num_ok hg1 hbig)
            clear hp hg1 hg2 hbig
            go_wp2_with fail
            refine (parse_yes s _ _ hs HP.out).mono ?_
            rintro e w2 ⟨rfl, hb2⟩
            simp at hb2
            obtain ⟨⟨hc0, hc1, hc2, hc3⟩, ⟨hf0, hf1, hf2, hf3⟩, hz, hb⟩ := own_cells hb2
            clear hb2
            go_wp2_with fail
            exact bodyPost_ret (v := .tuple #[tokV 2 ⟨#[]⟩ (numL s.toList) 0, .int .u8 0]) (by simp [results, tokV, Tryd.results41, go_sem, hc0, hc1, hc2, hc3]) rfl ⟨by rw [HF.out], below_set4 hb _ _ _ _⟩
end Go.Proofs.YtipfbppkahfnmaaDoor
