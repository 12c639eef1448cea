/- A part that fits. -/
import Derived.WalkLawsBesides
import Derived.Test.YtcjhgefkbnbmnaaPA
import Derived.Test.YtcjhgefkbnbmnaaPB
namespace Go.Proofs.Ytcjhgefkbnbmnaa
open Go.RowKit LM
set_option linter.unusedVariables false

set_option maxRecDepth 100000 in
theorem kidsAre_any (h : Hd) (f : Fo) (q : Option Addr) (cap : Nat) (ss : List Nat) (a : Option Addr) (c : Nat) (w : World) (hf : SlF w q cap f) (hok : f.ok) (hss : ∀ s ∈ ss, s ≤ 2) (hc : ss.length ≤ c) (hcm : ss.length ≤ 10)
    (ha : 0 < ss.length → ∃ b o, a = some ⟨b, o, none⟩ ∧ SortsAt w ss b o) :
    Calls Try.prog 125 #[.agg #[.int .u8 h.op, .string h.name, .int .i64 h.n, .slice q f.len cap], .slice a ss.length c] w fun e w' => e = .returned (.bool (decide (f.sorts = ss))) ∧ Below w.heap.size w w' := by
  have hb : ∀ o, Below w.heap.size w (w.alloc o) := fun o => (Below.refl _ _).alloc (Nat.le_refl _) _
  have HC := Lib.hid fun o => kidsEq_any f q cap ss a c (w.alloc o) (hf.below (hb o)) hok hss hc hcm (fun h0 => (ha h0).elim fun b h1 => h1.elim fun o' h2 => ⟨b, o', h2.1, fun i hi => ((hb o).cell (p := ⟨b, o' + i, none⟩) (World.block_lt_of_cell? w _ (h2.2 i hi))).trans (h2.2 i hi)⟩)
  have HB := Lib.hid hb
  clear hf hok hss ha hb
  generalize decide (f.sorts = ss) = r at *
  generalize h.op = o1 at *
  generalize h.name = o2 at *
  generalize h.n = o3 at *
  generalize f.len = o4 at *
  generalize ss.length = o5 at *
  go_enter Try.func125, Try.ntmps125
  go_wp2_with (go_at_call 144; refine (HC.out _).mono ?_; rintro e w' ⟨rfl, hb2⟩; have HB2 := Lib.hid hb2; clear hb2)
  go_ret
  exact ⟨rfl, (HB.out _).trans (HB2.out.mono (by simp))⟩

theorem sortsAt_one (w : World) (a : Nat) : SortsAt (w.alloc (.cells #[.int .u8 (a : Nat)] 75)) [a] w.heap.size 0 := by
  intro i hi
  have : i = 0 := by simp at hi; omega
  subst this
  simp only [World.cell?, World.alloc_heap_new]; rfl
theorem sortsAt_two (w : World) (a b : Nat) : SortsAt (w.alloc (.cells #[.int .u8 (a : Nat), .int .u8 (b : Nat)] 75)) [a, b] w.heap.size 0 := by
  intro i hi
  have : i = 0 ∨ i = 1 := by simp at hi; omega
  rcases this with rfl | rfl <;> (simp only [World.cell?, World.alloc_heap_new]; rfl)

/-- What fits asks of a part, of its Kids' sorts. -/
def fitsW (op : Int) (name : ByteArray) (n : Int) (w : World) (q : Option Addr) (f : Fo) (cap : Nat) : Prop :=
  (∀ w', Below w.heap.size w w' → Calls Try.prog 125 #[.agg #[.int .u8 op, .string name, .int .i64 n, .slice q f.len cap], .slice none 0 0] w' fun e w2 => e = .returned (.bool (decide (f.sorts = []))) ∧ Below w.heap.size w w2) ∧
  (∀ w' B, B = w'.heap.size → Below w.heap.size w w' → Calls Try.prog 125 #[.agg #[.int .u8 op, .string name, .int .i64 n, .slice q f.len cap], .slice (some ⟨B, 0, none⟩) 1 1] (w'.alloc (.cells #[.int .u8 2] 75)) fun e w2 => e = .returned (.bool (decide (f.sorts = [2]))) ∧ Below w.heap.size w w2) ∧
  (∀ w' B, B = w'.heap.size → Below w.heap.size w w' → Calls Try.prog 125 #[.agg #[.int .u8 op, .string name, .int .i64 n, .slice q f.len cap], .slice (some ⟨B, 0, none⟩) 2 2] (w'.alloc (.cells #[.int .u8 1, .int .u8 1] 75)) fun e w2 => e = .returned (.bool (decide (f.sorts = [1, 1]))) ∧ Below w.heap.size w w2) ∧
  (∀ w' B, B = w'.heap.size → Below w.heap.size w w' → Calls Try.prog 125 #[.agg #[.int .u8 op, .string name, .int .i64 n, .slice q f.len cap], .slice (some ⟨B, 0, none⟩) 2 2] (w'.alloc (.cells #[.int .u8 1, .int .u8 2] 75)) fun e w2 => e = .returned (.bool (decide (f.sorts = [1, 2]))) ∧ Below w.heap.size w w2)

theorem fitsW_of (h : Hd) (f : Fo) (q : Option Addr) (cap : Nat) (w : World) (hf : SlF w q cap f) (hok : f.ok) : fitsW h.op h.name h.n w q f cap := by
  have hb : ∀ (w' : World) o, Below w'.heap.size w' (w'.alloc o) := fun w' o => (Below.refl _ _).alloc (Nat.le_refl _) _
  have ht : ∀ {w' w2 : World} {o : Obj}, Below w.heap.size w w' → Below (w'.alloc o).heap.size (w'.alloc o) w2 → Below w.heap.size w w2 := fun h1 h2 => (h1.alloc h1.size _).trans (h2.mono (by have := h1.size; simp; omega))
  refine ⟨fun w' hw => (kidsAre_any h f q cap [] none 0 w' (hf.below hw) hok (by simp) (Nat.zero_le _) (by simp) (by simp)).mono fun e w2 hh => ⟨hh.1, hw.trans (hh.2.mono hw.size)⟩, fun w' B hB hw => ?_, fun w' B hB hw => ?_, fun w' B hB hw => ?_⟩
  all_goals subst hB
  · exact (kidsAre_any h f q cap [2] _ 1 _ ((hf.below hw).below (hb w' _)) hok (by simp) (Nat.le_refl _) (by simp) (fun _ => ⟨_, 0, rfl, sortsAt_one w' 2⟩)).mono fun e w2 hh => ⟨hh.1, ht hw hh.2⟩
  · exact (kidsAre_any h f q cap [1, 1] _ 2 _ ((hf.below hw).below (hb w' _)) hok (by simp) (Nat.le_refl _) (by simp) (fun _ => ⟨_, 0, rfl, sortsAt_two w' 1 1⟩)).mono fun e w2 hh => ⟨hh.1, ht hw hh.2⟩
  · exact (kidsAre_any h f q cap [1, 2] _ 2 _ ((hf.below hw).below (hb w' _)) hok (by simp) (Nat.le_refl _) (by simp) (fun _ => ⟨_, 0, rfl, sortsAt_two w' 1 2⟩)).mono fun e w2 hh => ⟨hh.1, ht hw hh.2⟩

set_option maxRecDepth 100000 in
theorem fits_1 (name : ByteArray) (n : Int) (f : Fo) (q : Option Addr) (cap : Nat) (w : World) (H : Hid (fitsW 1 name n w q f cap)) :
    Calls Try.prog 109 #[.agg #[.int .u8 1, .string name, .int .i64 n, .slice q f.len cap]] w fun e w' => e = .returned (.bool (fitsB ⟨1, name, n⟩ f)) ∧ Below w.heap.size w w' := by
  have HF : Hid (fitsB ⟨1, name, n⟩ f = (name.toList.isEmpty && decide (0 ≤ n) && decide (n = 0) && decide (f.sorts = []))) := Lib.hid (by simp [fitsB, kidsL, headB])
  generalize fitsB _ f = r at *
  by_cases hn : name.toList = []
  · have hn' : (!name.toList.isEmpty) = false := by simp [hn]
    by_cases h0 : n = 0
    · subst h0
      go_enter Try.func109, Try.ntmps109
      go_wp2_with (go_at_call 125; refine (H.out.1 _ ((Below.refl _ _).alloc (Nat.le_refl _) _)).mono ?_; rintro e w' ⟨rfl, hb2⟩; have HB2 := Lib.hid hb2; clear hb2)
      go_ret
      refine ⟨ret_bool (by rw [HF.out]; simp [hn]), HB2.out⟩
    · have h0' : (n == 0) = false := by simpa using h0
      go_enter Try.func109, Try.ntmps109
      go_wp2
      go_ret
      refine ⟨ret_bool (by rw [HF.out]; simp [h0]), (Below.refl _ _).alloc (Nat.le_refl _) _⟩
  · have hn' : name.toList.isEmpty = false := by simpa using hn
    go_enter Try.func109, Try.ntmps109
    go_wp2
    go_ret
    refine ⟨ret_bool (by rw [HF.out, hn']; simp), (Below.refl _ _).alloc (Nat.le_refl _) _⟩

set_option maxRecDepth 100000 in
theorem fits_2 (name : ByteArray) (n : Int) (f : Fo) (q : Option Addr) (cap : Nat) (w : World) (H : Hid (fitsW 2 name n w q f cap)) :
    Calls Try.prog 109 #[.agg #[.int .u8 2, .string name, .int .i64 n, .slice q f.len cap]] w fun e w' => e = .returned (.bool (fitsB ⟨2, name, n⟩ f)) ∧ Below w.heap.size w w' := by
  have HF : Hid (fitsB ⟨2, name, n⟩ f = (name.toList.isEmpty && decide (0 ≤ n) && decide (n = 0) && decide (f.sorts = []))) := Lib.hid (by simp [fitsB, kidsL, headB])
  generalize fitsB _ f = r at *
  by_cases hn : name.toList = []
  · have hn' : (!name.toList.isEmpty) = false := by simp [hn]
    by_cases h0 : n = 0
    · subst h0
      go_enter Try.func109, Try.ntmps109
      go_wp2_with (go_at_call 125; refine (H.out.1 _ ((Below.refl _ _).alloc (Nat.le_refl _) _)).mono ?_; rintro e w' ⟨rfl, hb2⟩; have HB2 := Lib.hid hb2; clear hb2)
      go_ret
      refine ⟨ret_bool (by rw [HF.out]; simp [hn]), HB2.out⟩
    · have h0' : (n == 0) = false := by simpa using h0
      go_enter Try.func109, Try.ntmps109
      go_wp2
      go_ret
      refine ⟨ret_bool (by rw [HF.out]; simp [h0]), (Below.refl _ _).alloc (Nat.le_refl _) _⟩
  · have hn' : name.toList.isEmpty = false := by simpa using hn
    go_enter Try.func109, Try.ntmps109
    go_wp2
    go_ret
    refine ⟨ret_bool (by rw [HF.out, hn']; simp), (Below.refl _ _).alloc (Nat.le_refl _) _⟩

set_option maxRecDepth 100000 in
theorem fits_3 (name : ByteArray) (n : Int) (f : Fo) (q : Option Addr) (cap : Nat) (w : World) (H : Hid (fitsW 3 name n w q f cap)) :
    Calls Try.prog 109 #[.agg #[.int .u8 3, .string name, .int .i64 n, .slice q f.len cap]] w fun e w' => e = .returned (.bool (fitsB ⟨3, name, n⟩ f)) ∧ Below w.heap.size w w' := by
  have HF : Hid (fitsB ⟨3, name, n⟩ f = (name.toList.isEmpty && decide (0 ≤ n) && decide (n = 0) && decide (f.sorts = []))) := Lib.hid (by simp [fitsB, kidsL, headB])
  generalize fitsB _ f = r at *
  by_cases hn : name.toList = []
  · have hn' : (!name.toList.isEmpty) = false := by simp [hn]
    by_cases h0 : n = 0
    · subst h0
      go_enter Try.func109, Try.ntmps109
      go_wp2_with (go_at_call 125; refine (H.out.1 _ ((Below.refl _ _).alloc (Nat.le_refl _) _)).mono ?_; rintro e w' ⟨rfl, hb2⟩; have HB2 := Lib.hid hb2; clear hb2)
      go_ret
      refine ⟨ret_bool (by rw [HF.out]; simp [hn]), HB2.out⟩
    · have h0' : (n == 0) = false := by simpa using h0
      go_enter Try.func109, Try.ntmps109
      go_wp2
      go_ret
      refine ⟨ret_bool (by rw [HF.out]; simp [h0]), (Below.refl _ _).alloc (Nat.le_refl _) _⟩
  · have hn' : name.toList.isEmpty = false := by simpa using hn
    go_enter Try.func109, Try.ntmps109
    go_wp2
    go_ret
    refine ⟨ret_bool (by rw [HF.out, hn']; simp), (Below.refl _ _).alloc (Nat.le_refl _) _⟩

set_option maxRecDepth 100000 in
theorem fits_8 (name : ByteArray) (n : Int) (f : Fo) (q : Option Addr) (cap : Nat) (w : World) (H : Hid (fitsW 8 name n w q f cap)) :
    Calls Try.prog 109 #[.agg #[.int .u8 8, .string name, .int .i64 n, .slice q f.len cap]] w fun e w' => e = .returned (.bool (fitsB ⟨8, name, n⟩ f)) ∧ Below w.heap.size w w' := by
  have HF : Hid (fitsB ⟨8, name, n⟩ f = (name.toList.isEmpty && decide (0 ≤ n) && decide (n = 0) && decide (f.sorts = []))) := Lib.hid (by simp [fitsB, kidsL, headB])
  generalize fitsB _ f = r at *
  by_cases hn : name.toList = []
  · have hn' : (!name.toList.isEmpty) = false := by simp [hn]
    by_cases h0 : n = 0
    · subst h0
      go_enter Try.func109, Try.ntmps109
      go_wp2_with (go_at_call 125; refine (H.out.1 _ ((Below.refl _ _).alloc (Nat.le_refl _) _)).mono ?_; rintro e w' ⟨rfl, hb2⟩; have HB2 := Lib.hid hb2; clear hb2)
      go_ret
      refine ⟨ret_bool (by rw [HF.out]; simp [hn]), HB2.out⟩
    · have h0' : (n == 0) = false := by simpa using h0
      go_enter Try.func109, Try.ntmps109
      go_wp2
      go_ret
      refine ⟨ret_bool (by rw [HF.out]; simp [h0]), (Below.refl _ _).alloc (Nat.le_refl _) _⟩
  · have hn' : name.toList.isEmpty = false := by simpa using hn
    go_enter Try.func109, Try.ntmps109
    go_wp2
    go_ret
    refine ⟨ret_bool (by rw [HF.out, hn']; simp), (Below.refl _ _).alloc (Nat.le_refl _) _⟩

set_option maxRecDepth 100000 in
theorem fits_9 (name : ByteArray) (n : Int) (f : Fo) (q : Option Addr) (cap : Nat) (w : World) (H : Hid (fitsW 9 name n w q f cap)) :
    Calls Try.prog 109 #[.agg #[.int .u8 9, .string name, .int .i64 n, .slice q f.len cap]] w fun e w' => e = .returned (.bool (fitsB ⟨9, name, n⟩ f)) ∧ Below w.heap.size w w' := by
  have HF : Hid (fitsB ⟨9, name, n⟩ f = (name.toList.isEmpty && decide (0 ≤ n) && decide (n = 0) && decide (f.sorts = []))) := Lib.hid (by simp [fitsB, kidsL, headB])
  generalize fitsB _ f = r at *
  by_cases hn : name.toList = []
  · have hn' : (!name.toList.isEmpty) = false := by simp [hn]
    by_cases h0 : n = 0
    · subst h0
      go_enter Try.func109, Try.ntmps109
      go_wp2_with (go_at_call 125; refine (H.out.1 _ ((Below.refl _ _).alloc (Nat.le_refl _) _)).mono ?_; rintro e w' ⟨rfl, hb2⟩; have HB2 := Lib.hid hb2; clear hb2)
      go_ret
      refine ⟨ret_bool (by rw [HF.out]; simp [hn]), HB2.out⟩
    · have h0' : (n == 0) = false := by simpa using h0
      go_enter Try.func109, Try.ntmps109
      go_wp2
      go_ret
      refine ⟨ret_bool (by rw [HF.out]; simp [h0]), (Below.refl _ _).alloc (Nat.le_refl _) _⟩
  · have hn' : name.toList.isEmpty = false := by simpa using hn
    go_enter Try.func109, Try.ntmps109
    go_wp2
    go_ret
    refine ⟨ret_bool (by rw [HF.out, hn']; simp), (Below.refl _ _).alloc (Nat.le_refl _) _⟩

set_option maxRecDepth 100000 in
theorem fits_7 (name : ByteArray) (n : Int) (f : Fo) (q : Option Addr) (cap : Nat) (w : World) (H : Hid (fitsW 7 name n w q f cap)) :
    Calls Try.prog 109 #[.agg #[.int .u8 7, .string name, .int .i64 n, .slice q f.len cap]] w fun e w' => e = .returned (.bool (fitsB ⟨7, name, n⟩ f)) ∧ Below w.heap.size w w' := by
  have HF : Hid (fitsB ⟨7, name, n⟩ f = (name.toList.isEmpty && decide (0 ≤ n) && decide (f.sorts = []))) := Lib.hid (by simp [fitsB, kidsL, headB])
  generalize fitsB _ f = r at *
  by_cases hn : name.toList = []
  · have hn' : (!name.toList.isEmpty) = false := by simp [hn]
    by_cases h0 : 0 ≤ n
    · go_enter Try.func109, Try.ntmps109
      go_wp2_with (go_at_call 125; refine (H.out.1 _ ((Below.refl _ _).alloc (Nat.le_refl _) _)).mono ?_; rintro e w' ⟨rfl, hb2⟩; have HB2 := Lib.hid hb2; clear hb2)
      go_ret
      refine ⟨ret_bool (by rw [HF.out]; simp [hn, h0]), HB2.out⟩
    · have h0' : decide (0 ≤ n) = false := by simpa using h0
      go_enter Try.func109, Try.ntmps109
      go_wp2
      go_ret
      refine ⟨ret_bool (by rw [HF.out, h0']; simp), (Below.refl _ _).alloc (Nat.le_refl _) _⟩
  · have hn' : name.toList.isEmpty = false := by simpa using hn
    go_enter Try.func109, Try.ntmps109
    go_wp2
    go_ret
    refine ⟨ret_bool (by rw [HF.out, hn']; simp), (Below.refl _ _).alloc (Nat.le_refl _) _⟩

set_option maxRecDepth 100000 in
theorem fits_10 (name : ByteArray) (n : Int) (f : Fo) (q : Option Addr) (cap : Nat) (w : World) (H : Hid (fitsW 10 name n w q f cap)) :
    Calls Try.prog 109 #[.agg #[.int .u8 10, .string name, .int .i64 n, .slice q f.len cap]] w fun e w' => e = .returned (.bool (fitsB ⟨10, name, n⟩ f)) ∧ Below w.heap.size w w' := by
  have HF : Hid (fitsB ⟨10, name, n⟩ f = (name.toList.isEmpty && decide (0 ≤ n) && decide (f.sorts = []))) := Lib.hid (by simp [fitsB, kidsL, headB])
  generalize fitsB _ f = r at *
  by_cases hn : name.toList = []
  · have hn' : (!name.toList.isEmpty) = false := by simp [hn]
    by_cases h0 : 0 ≤ n
    · go_enter Try.func109, Try.ntmps109
      go_wp2_with (go_at_call 125; refine (H.out.1 _ ((Below.refl _ _).alloc (Nat.le_refl _) _)).mono ?_; rintro e w' ⟨rfl, hb2⟩; have HB2 := Lib.hid hb2; clear hb2)
      go_ret
      refine ⟨ret_bool (by rw [HF.out]; simp [hn, h0]), HB2.out⟩
    · have h0' : decide (0 ≤ n) = false := by simpa using h0
      go_enter Try.func109, Try.ntmps109
      go_wp2
      go_ret
      refine ⟨ret_bool (by rw [HF.out, h0']; simp), (Below.refl _ _).alloc (Nat.le_refl _) _⟩
  · have hn' : name.toList.isEmpty = false := by simpa using hn
    go_enter Try.func109, Try.ntmps109
    go_wp2
    go_ret
    refine ⟨ret_bool (by rw [HF.out, hn']; simp), (Below.refl _ _).alloc (Nat.le_refl _) _⟩

set_option maxRecDepth 100000 in
theorem fits_4 (name : ByteArray) (n : Int) (f : Fo) (q : Option Addr) (cap : Nat) (w : World) (H : Hid (fitsW 4 name n w q f cap)) :
    Calls Try.prog 109 #[.agg #[.int .u8 4, .string name, .int .i64 n, .slice q f.len cap]] w fun e w' => e = .returned (.bool (fitsB ⟨4, name, n⟩ f)) ∧ Below w.heap.size w w' := by
  have HF : Hid (fitsB ⟨4, name, n⟩ f = (name.toList.isEmpty && decide (0 ≤ n) && decide (n = 0) && decide (f.sorts = [1, 1]))) := Lib.hid (by simp [fitsB, kidsL, headB])
  generalize fitsB _ f = r at *
  by_cases hn : name.toList = []
  · have hn' : (!name.toList.isEmpty) = false := by simp [hn]
    by_cases h0 : n = 0
    · subst h0
      go_enter Try.func109, Try.ntmps109
      go_wp2_with (go_at_call 125; refine (H.out.2.2.1 _ _ (World.size_alloc _ _).symm ((Below.refl _ _).alloc (Nat.le_refl _) _)).mono ?_; rintro e w' ⟨rfl, hb2⟩; have HB2 := Lib.hid hb2; clear hb2)
      go_ret
      refine ⟨ret_bool (by rw [HF.out]; simp [hn]), HB2.out⟩
    · have h0' : (n == 0) = false := by simpa using h0
      go_enter Try.func109, Try.ntmps109
      go_wp2
      go_ret
      refine ⟨ret_bool (by rw [HF.out]; simp [h0]), (Below.refl _ _).alloc (Nat.le_refl _) _⟩
  · have hn' : name.toList.isEmpty = false := by simpa using hn
    go_enter Try.func109, Try.ntmps109
    go_wp2
    go_ret
    refine ⟨ret_bool (by rw [HF.out, hn']; simp), (Below.refl _ _).alloc (Nat.le_refl _) _⟩

set_option maxRecDepth 100000 in
theorem fits_5 (name : ByteArray) (n : Int) (f : Fo) (q : Option Addr) (cap : Nat) (w : World) (H : Hid (fitsW 5 name n w q f cap)) :
    Calls Try.prog 109 #[.agg #[.int .u8 5, .string name, .int .i64 n, .slice q f.len cap]] w fun e w' => e = .returned (.bool (fitsB ⟨5, name, n⟩ f)) ∧ Below w.heap.size w w' := by
  have HF : Hid (fitsB ⟨5, name, n⟩ f = (name.toList.isEmpty && decide (0 ≤ n) && decide (n = 0) && decide (f.sorts = [2]))) := Lib.hid (by simp [fitsB, kidsL, headB])
  generalize fitsB _ f = r at *
  by_cases hn : name.toList = []
  · have hn' : (!name.toList.isEmpty) = false := by simp [hn]
    by_cases h0 : n = 0
    · subst h0
      go_enter Try.func109, Try.ntmps109
      go_wp2_with (go_at_call 125; refine (H.out.2.1 _ _ (World.size_alloc _ _).symm ((Below.refl _ _).alloc (Nat.le_refl _) _)).mono ?_; rintro e w' ⟨rfl, hb2⟩; have HB2 := Lib.hid hb2; clear hb2)
      go_ret
      refine ⟨ret_bool (by rw [HF.out]; simp [hn]), HB2.out⟩
    · have h0' : (n == 0) = false := by simpa using h0
      go_enter Try.func109, Try.ntmps109
      go_wp2
      go_ret
      refine ⟨ret_bool (by rw [HF.out]; simp [h0]), (Below.refl _ _).alloc (Nat.le_refl _) _⟩
  · have hn' : name.toList.isEmpty = false := by simpa using hn
    go_enter Try.func109, Try.ntmps109
    go_wp2
    go_ret
    refine ⟨ret_bool (by rw [HF.out, hn']; simp), (Below.refl _ _).alloc (Nat.le_refl _) _⟩

set_option maxRecDepth 100000 in
theorem fits_6 (name : ByteArray) (n : Int) (f : Fo) (q : Option Addr) (cap : Nat) (w : World) (H : Hid (fitsW 6 name n w q f cap)) :
    Calls Try.prog 109 #[.agg #[.int .u8 6, .string name, .int .i64 n, .slice q f.len cap]] w fun e w' => e = .returned (.bool (fitsB ⟨6, name, n⟩ f)) ∧ Below w.heap.size w w' := by
  have HF : Hid (fitsB ⟨6, name, n⟩ f = (name.toList.isEmpty && decide (0 ≤ n) && decide (n = 0) && decide (f.sorts = [2]))) := Lib.hid (by simp [fitsB, kidsL, headB])
  generalize fitsB _ f = r at *
  by_cases hn : name.toList = []
  · have hn' : (!name.toList.isEmpty) = false := by simp [hn]
    by_cases h0 : n = 0
    · subst h0
      go_enter Try.func109, Try.ntmps109
      go_wp2_with (go_at_call 125; refine (H.out.2.1 _ _ (World.size_alloc _ _).symm ((Below.refl _ _).alloc (Nat.le_refl _) _)).mono ?_; rintro e w' ⟨rfl, hb2⟩; have HB2 := Lib.hid hb2; clear hb2)
      go_ret
      refine ⟨ret_bool (by rw [HF.out]; simp [hn]), HB2.out⟩
    · have h0' : (n == 0) = false := by simpa using h0
      go_enter Try.func109, Try.ntmps109
      go_wp2
      go_ret
      refine ⟨ret_bool (by rw [HF.out]; simp [h0]), (Below.refl _ _).alloc (Nat.le_refl _) _⟩
  · have hn' : name.toList.isEmpty = false := by simpa using hn
    go_enter Try.func109, Try.ntmps109
    go_wp2
    go_ret
    refine ⟨ret_bool (by rw [HF.out, hn']; simp), (Below.refl _ _).alloc (Nat.le_refl _) _⟩

set_option maxRecDepth 100000 in
theorem fits_11 (name : ByteArray) (n : Int) (f : Fo) (q : Option Addr) (cap : Nat) (w : World) (hs : name.size ≤ 9223372036854775807) (H : Hid (fitsW 11 name n w q f cap)) :
    Calls Try.prog 109 #[.agg #[.int .u8 11, .string name, .int .i64 n, .slice q f.len cap]] w fun e w' => e = .returned (.bool (fitsB ⟨11, name, n⟩ f)) ∧ Below w.heap.size w w' := by
  have HF : Hid (fitsB ⟨11, name, n⟩ f = (wordL name.toList && decide (0 ≤ n) && decide (n = 0) && decide (f.sorts = [1, 2]))) := Lib.hid (by simp [fitsB, kidsL, headB])
  have HW := Lib.hid fun w => isWord_any name w hs
  generalize fitsB _ f = r at *
  generalize wordL name.toList = wd at *
  cases wd
  · go_enter Try.func109, Try.ntmps109
    go_wp2_with (go_at_call 118; refine (HW.out _).mono ?_; rintro e w' ⟨rfl, rfl⟩)
    go_ret
    exact ⟨ret_bool (by rw [HF.out]; rfl), (Below.refl _ _).alloc (Nat.le_refl _) _⟩
  · by_cases h0 : n = 0
    · subst h0
      go_enter Try.func109, Try.ntmps109
      go_wp2_with (first | (go_at_call 118; refine (HW.out _).mono ?_; rintro e w' ⟨rfl, rfl⟩) | (go_at_call 125; refine (H.out.2.2.2 _ _ (World.size_alloc _ _).symm ((Below.refl _ _).alloc (Nat.le_refl _) _)).mono ?_; rintro e w' ⟨rfl, hb2⟩; have HB2 := Lib.hid hb2; clear hb2))
      go_ret
      refine ⟨ret_bool (by rw [HF.out]; simp), HB2.out⟩
    · have h0' : (n == 0) = false := by simpa using h0
      go_enter Try.func109, Try.ntmps109
      go_wp2_with (go_at_call 118; refine (HW.out _).mono ?_; rintro e w' ⟨rfl, rfl⟩)
      go_ret
      refine ⟨ret_bool (by rw [HF.out]; simp [h0]), (Below.refl _ _).alloc (Nat.le_refl _) _⟩

set_option maxRecDepth 100000 in
theorem fits_no (op : Int) (name : ByteArray) (n : Int) (f : Fo) (q : Option Addr) (cap : Nat) (w : World) (h0 : 0 ≤ op) (h1 : op ≤ 255) (hno : op < 1 ∨ 11 < op) :
    Calls Try.prog 109 #[.agg #[.int .u8 op, .string name, .int .i64 n, .slice q f.len cap]] w fun e w' => e = .returned (.bool (fitsB ⟨op, name, n⟩ f)) ∧ Below w.heap.size w w' := by
  have HF : Hid (fitsB ⟨op, name, n⟩ f = false) := Lib.hid (by
    have : kidsL op = none := by unfold kidsL; rw [if_neg (by omega), if_neg (by omega), if_neg (by omega), if_neg (by omega)]
    simp [fitsB, this])
  generalize fitsB _ f = r at *
  have e1 : (op == 1) = false := by rw [beq_eq_false_iff_ne]; omega
  have e2 : (op == 2) = false := by rw [beq_eq_false_iff_ne]; omega
  have e3 : (op == 3) = false := by rw [beq_eq_false_iff_ne]; omega
  have e4 : (op == 4) = false := by rw [beq_eq_false_iff_ne]; omega
  have e5 : (op == 5) = false := by rw [beq_eq_false_iff_ne]; omega
  have e6 : (op == 6) = false := by rw [beq_eq_false_iff_ne]; omega
  have e7 : (op == 7) = false := by rw [beq_eq_false_iff_ne]; omega
  have e8 : (op == 8) = false := by rw [beq_eq_false_iff_ne]; omega
  have e9 : (op == 9) = false := by rw [beq_eq_false_iff_ne]; omega
  have e10 : (op == 10) = false := by rw [beq_eq_false_iff_ne]; omega
  have e11 : (op == 11) = false := by rw [beq_eq_false_iff_ne]; omega
  go_enter Try.func109, Try.ntmps109
  go_wp2
  go_ret
  exact ⟨ret_bool HF.out.symm, (Below.refl _ _).alloc (Nat.le_refl _) _⟩

/-- **'fits': what it answers of any part.** -/
theorem fits_any (h : Hd) (f : Fo) (q : Option Addr) (cap : Nat) (w : World) (hh : h.ok) (hf : SlF w q cap f) (hok : f.ok) :
    Calls Try.prog 109 #[.agg #[.int .u8 h.op, .string h.name, .int .i64 h.n, .slice q f.len cap]] w fun e w' => e = .returned (.bool (fitsB h f)) ∧ Below w.heap.size w w' := by
  have H := Lib.hid (fitsW_of h f q cap w hf hok)
  obtain ⟨op, name, n⟩ := h
  have h0 := hh.op0
  have h1 := hh.op1
  have hs : name.size ≤ 9223372036854775807 := by have := hh.name; unfold maxLen at this; simpa using this
  simp only at *
  by_cases hno : op < 1 ∨ 11 < op
  · exact fits_no op name n f q cap w h0 h1 hno
  · have hc : op = 1 ∨ op = 2 ∨ op = 3 ∨ op = 4 ∨ op = 5 ∨ op = 6 ∨ op = 7 ∨ op = 8 ∨ op = 9 ∨ op = 10 ∨ op = 11 := by omega
    rcases hc with rfl | rfl | rfl | rfl | rfl | rfl | rfl | rfl | rfl | rfl | rfl
    · exact fits_1 name n f q cap w H
    · exact fits_2 name n f q cap w H
    · exact fits_3 name n f q cap w H
    · exact fits_4 name n f q cap w H
    · exact fits_5 name n f q cap w H
    · exact fits_6 name n f q cap w H
    · exact fits_7 name n f q cap w H
    · exact fits_8 name n f q cap w H
    · exact fits_9 name n f q cap w H
    · exact fits_10 name n f q cap w H
    · exact fits_11 name n f q cap w hs H

end Go.Proofs.Ytcjhgefkbnbmnaa
