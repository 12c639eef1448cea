import Derived.Test.YtchepcokcbpmmaaI
import Derived.Laws.CopyOwn
import Derived.Laws.MakeOwn
namespace Go.Proofs.Ytchepcokcbpmmaa
open Go.RowKit RM
set_option linter.unusedVariables false

theorem info5 : (Try.prog.info? 5).map (fun i => (i.zero, i.size, i.bytes)) = some (some (.int .u8 0), 1, 1) := by kernel_rfl
theorem size5 : (Try.prog.info? 5).map (·.size) = some 1 := by kernel_rfl

theorem make_u8 (n : Nat) (h : n ≤ 5000) (w : World) : ∃ cur : List Value, cur.length = n + 4 ∧
    (Instr.makeSlice 22 (.int .i64 n) (.int .i64 ((n : Int) + 4))).run Try.prog w = .ok (.slice (some ⟨w.heap.size, 0, none⟩) n (n + 4)) (w.alloc (.cells cur.toArray 5)) := by
  obtain ⟨i0, hi, hz0, hz1, hz2⟩ := info_parts info5
  have := run_make (P := Try.prog) w 22 5 i0 (.int .u8 0) Try.underlying22 hi hz0 .i64 .i64 n ((n : Int) + 4) (by omega) (by omega) (by rw [hz2]; omega) (by omega)
  have e : ((n : Int) + 4).toNat = n + 4 := by omega
  rw [e, Int.toNat_natCast] at this
  refine ⟨(madeCells (Value.int .u8 0).cells ((n + 4) * i0.size)).toList, ?_, ?_⟩
  · rw [hz1]
    simp [madeCells]
  · rw [this]

theorem isPoint_bool (r : Int) (v : Bool) (w : World) (h : isPt r = v) (h1 : -2147483648 ≤ r) (h2 : r ≤ 2147483647) :
    Calls Try.prog 22 #[.int .i32 r] w fun e w' => e = .returned (.bool v) ∧ w = w' := by
  subst h
  exact isPoint_any r w h1 h2

theorem put_no (a : Option Addr) (n cap : Nat) (r : Int) (w : World) (h : isPt r = false) (h1 : -2147483648 ≤ r) (h2 : r ≤ 2147483647) :
    Calls Try.prog 11 #[.slice a n cap, .int .i32 r] w fun e w' => e = .returned (.tuple #[.slice none 0 0, .bool false]) ∧ w = w' := by
  have HP := Lib.hid h
  clear h
  go_enter Try.func11, Try.ntmps11
  go_wp2_with (go_at_call 22; refine (isPoint_bool _ false _ HP.out (by omega) (by omega)).mono ?_; rintro e w' ⟨rfl, rfl⟩)
  go_ret2
  exact ⟨rfl, rfl⟩

/-- A slice and true. -/
def PutPost (l : List Int) (w : World) (e : Ending) (w' : World) : Prop :=
  ∃ a cap, e = .returned (.tuple #[.slice a l.length cap, .bool true]) ∧ Sl .u8 w' a cap l ∧ Below w.heap.size w w' ∧ ∀ ad, a = some ad → w.heap.size ≤ ad.block

theorem heap_lt {w : World} {g : Nat} {o : Obj} (h : w.heap[g]? = some o) : g < w.heap.size := by
  by_cases hlt : g < w.heap.size
  · exact hlt
  · rw [Array.getElem?_eq_none (by omega)] at h; cases h

theorem cells_new (w : World) (xs : List Value) (t : TypeId) : ∀ j u, xs[j]? = some u → (w.alloc (.cells xs.toArray t)).cell? ((⟨w.heap.size, 0, none⟩ : Addr).add j) = some u := by
  intro j u hj
  have e : (⟨w.heap.size, 0, none⟩ : Addr).add j = ⟨w.heap.size, j, none⟩ := by
    by_cases j0 : j = 0
    · subst j0; rfl
    · simp [Addr.add, j0]
  rw [e, World.cell?_alloc_at _ _ _ _ rfl]
  simpa using hj

theorem putPost_owns {w w' : World} {v : Value} {n T : Nat} {l : List Int} (h : w'.ownsRow w.heap.size T 1 v n (l.map (Value.int .u8))) (hb : Below w.heap.size w w') :
    PutPost l w (.returned (.tuple #[v, .bool true])) w' := by
  obtain ⟨a, cap, rfl, hs⟩ := sl_of_owns h
  exact ⟨a, cap, rfl, hs, hb, fun ad he => by subst he; exact (h.lt _ rfl).1⟩

theorem put_grow {w w2 w3 : World} {o : Obj} {n c : Nat} (hb2 : Below w.heap.size w w2) (hw2 : w.heap.size < w2.heap.size)
    (hg : (w2.alloc o).grownBy w3 (Value.slice (some ⟨w.heap.size, 0, none⟩) n c).ownBlock) : Below w.heap.size w w3 :=
  (hb2.alloc (by omega) o).grown hg (by simp; omega) (fun k hk => by simp [Value.ownBlock] at hk; omega)

theorem put_fin {w w3 : World} {v : Value} {n : Nat} {l : List Int} {r : Int} {cs news : List Value} (hown : w3.ownsRow w.heap.size 5 1 v n (cs ++ news)) (hb : Below w.heap.size w w3)
    (hcs : cs = l.map (Value.int .u8)) (hn : (encB r).map (Value.int .u8) = news) : PutPost (l ++ encB r) w (.returned (.tuple #[v, .bool true])) w3 := by
  subst hcs hn
  rw [← List.map_append] at hown
  exact putPost_owns hown hb

set_option maxHeartbeats 2000000 in
theorem put_ok (a : Option Addr) (cap : Nat) (l : List Int) (r : Int) (w : World) (h : Sl .u8 w a cap l) (hL : l.length ≤ 5000) (hr : isPt r = true) :
    Calls Try.prog 11 #[.slice a l.length cap, .int .i32 r] w (PutPost (l ++ encB r) w) := by
  have hcap := h.le
  have hmax := h.mx
  have hpt := isPt_iff.1 hr
  have hr1 : 0 ≤ r := by omega
  have hr2 : r ≤ 1114111 := by omega
  clear hpt
  obtain ⟨cur, hcl, hmk⟩ := make_u8 l.length hL w
  obtain ⟨i0, hi, hz0, hz1, hz2⟩ := info_parts info5
  have HP := Lib.hid hr
  have HCL := Lib.hid hcl
  clear hr hcl
  obtain ⟨cs, hcs⟩ : ∃ cs, cs = l.map (Value.int .u8) := ⟨_, rfl⟩
  have hcsl : cs.length = l.length := by rw [hcs]; simp
  have hc1 : ∀ v ∈ cs, v.oneCell' = true := by intro v hv; rw [hcs] at hv; simp at hv; obtain ⟨x, _, rfl⟩ := hv; rfl
  have HCS := Lib.hid hcs
  have HCSL := Lib.hid hcsl
  have HC1 := Lib.hid hc1
  clear hcs hcsl hc1
  have hw1 : (w.alloc (.cells cur.toArray 5)).heap[w.heap.size]? = some (.cells cur.toArray 5 (0, 0)) := by
    show (w.heap.push _)[w.heap.size]? = _
    simp
  have HW1 := Lib.hid hw1
  clear hw1
  have hpos : 0 < cs.length → ∃ ad, a = some ad ∧ ∀ j v, cs[j]? = some v → (w.alloc (.cells cur.toArray 5)).cell? (ad.add j) = some v := by
    intro h0
    rcases h.rd with e | ⟨b, off, e, hlt, hc⟩
    · rw [HCSL.out, e] at h0; simp at h0
    · refine ⟨_, e, fun j v hv => ?_⟩
      have hj : j < l.length := by
        rw [← HCSL.out]
        by_cases hj : j < cs.length
        · exact hj
        · rw [List.getElem?_eq_none (by omega)] at hv; cases hv
      have h3 := hc j hj
      rw [HCS.out] at hv
      rw [List.getElem?_map, List.getElem?_eq_getElem hj] at hv
      simp at hv
      have h4 : l.getD j 0 = l[j] := by simp [List.getD_eq_getElem?_getD, List.getElem?_eq_getElem hj]
      rw [h4, hv] at h3
      have h5 : (⟨b, off, none⟩ : Addr).add j = ⟨b, off + j, none⟩ := by
        by_cases j0 : j = 0
        · subst j0; simp [Addr.add]
        · simp [Addr.add, j0]
      rw [h5, World.cell?_alloc_past _ _ _ hlt]
      exact h3
  have HPOS := Lib.hid hpos
  clear hpos h
  go_enter Try.func11, Try.ntmps11
  go_wp2_with (first | (go_at_call 22; refine (isPoint_bool _ true _ HP.out (by omega) (by omega)).mono ?_; rintro e w' ⟨rfl, rfl⟩) | (refine wpList_copy_splice rfl (.tmp 16) (.tmp 17) 22 22 rfl 5 Try.underlying22 size5 (some ⟨w.heap.size, 0, none⟩) a l.length (l.length + 4) l.length cap rfl rfl w.heap.size 0 cur 5 HW1.out cs ?n (fun h0 => ⟨rfl, HPOS.out h0⟩) ?f HC1.out w.heap.size w ?b ?g ?_))
  case n => rw [HCSL.out]; exact (Nat.min_self _).symm
  case f => rw [HCSL.out, HCL.out]; omega
  case b => exact (Below.refl _ _).alloc (Nat.le_refl _) _
  case g => exact Nat.le_refl _
  intro w2 HW2 hb2
  have hown : w2.ownsRow w.heap.size 5 1 (.slice (some ⟨w.heap.size, 0, none⟩) l.length (l.length + 4)) l.length cs := by
    have h1 := HCSL.out
    have h2 := HCL.out
    refine ⟨by omega, .inr ⟨w.heap.size, l.length + 4, _, rfl, Nat.le_refl _, HW2.out, by omega, by unfold maxLen; omega, ?_, ?_⟩⟩
    · rw [List.size_toArray, length_splice _ _ _ (by omega)]; omega
    · rw [← h1]; simp [splice]
  have hsz2 := hb2.size
  have hw2 : w.heap.size < w2.heap.size := heap_lt HW2.out
  clear HW2 HPOS HW1 hmk
  by_cases g1 : r < 128
  · have HE : Hid (encB r = [r]) := by show encB r = [r]; unfold encB; rw [if_pos g1]
    go_wp2_with (first | (at_builtin; refine wpList_append_own _ rfl (.tmp 37) (.tmp 40) 22 rfl w.heap.size 5 i0 (.int .u8 0) 1 1 Try.underlying22 hi hz0 hz1 hz2 rfl (by decide) _ _ _ rfl (hown.alloc _) ⟨w2.heap.size, 0, none⟩ 1 1 [.int .u8 (r)] rfl rfl ?c1 ?c2 ?c3 ?c4 ?c5 ?_))
    case c1 => exact cells_new w2 _ 5
    case c2 => intro u hu; simp at hu; rcases hu with rfl <;> rfl
    case c3 => unfold maxLen; omega
    case c4 => omega
    case c5 => simp; omega
    intro v' w3 hown3 hgrow3 hnil3
    have hbel3 := put_grow hb2 hw2 hgrow3
    clear hgrow3 hnil3 hown
    go_wp2_with fail
    go_ret2
    exact put_fin hown3 hbel3 HCS.out (by rw [HE.out]; rfl)
  · by_cases g2 : r < 2048
    · have HE : Hid (encB r = [192 + r / 64, 128 + r % 64]) := by show encB r = _; unfold encB; rw [if_neg g1, if_pos g2]
      go_wp2_with (first | (go_at_call 23; refine (group_any _ _ (by omega) (by omega)).mono ?_; rintro e w' ⟨rfl, rfl⟩) | (at_builtin; refine wpList_append_own _ rfl (.tmp 45) (.tmp 52) 22 rfl w.heap.size 5 i0 (.int .u8 0) 1 1 Try.underlying22 hi hz0 hz1 hz2 rfl (by decide) _ _ _ rfl (hown.alloc _) ⟨w2.heap.size, 0, none⟩ 2 2 [.int .u8 (192 + r / 64), .int .u8 (128 + r % 64)] rfl rfl ?d1 ?d2 ?d3 ?d4 ?d5 ?_))
      case d1 => exact cells_new w2 _ 5
      case d2 => intro u hu; simp at hu; rcases hu with rfl | rfl <;> rfl
      case d3 => unfold maxLen; omega
      case d4 => omega
      case d5 => simp; omega
      intro v' w3 hown3 hgrow3 hnil3
      have hbel3 := put_grow hb2 hw2 hgrow3
      clear hgrow3 hnil3 hown
      go_wp2_with fail
      go_ret2
      exact put_fin hown3 hbel3 HCS.out (by rw [HE.out]; rfl)
    · by_cases g3 : r < 65536
      · have HE : Hid (encB r = [224 + r / 4096, 128 + r / 64 % 64, 128 + r % 64]) := by show encB r = _; unfold encB; rw [if_neg g1, if_neg g2, if_pos g3]
        go_wp2_with (first | (go_at_call 23; refine (group_any _ _ (by omega) (by omega)).mono ?_; rintro e w' ⟨rfl, rfl⟩) | (at_builtin; refine wpList_append_own _ rfl (.tmp 57) (.tmp 67) 22 rfl w.heap.size 5 i0 (.int .u8 0) 1 1 Try.underlying22 hi hz0 hz1 hz2 rfl (by decide) _ _ _ rfl (hown.alloc _) ⟨w2.heap.size, 0, none⟩ 3 3 [.int .u8 (224 + r / 4096), .int .u8 (128 + r / 64 % 64), .int .u8 (128 + r % 64)] rfl rfl ?f1 ?f2 ?f3 ?f4 ?f5 ?_))
        case f1 => exact cells_new w2 _ 5
        case f2 => intro u hu; simp at hu; rcases hu with rfl | rfl | rfl <;> rfl
        case f3 => unfold maxLen; omega
        case f4 => omega
        case f5 => simp; omega
        intro v' w3 hown3 hgrow3 hnil3
        have hbel3 := put_grow hb2 hw2 hgrow3
        clear hgrow3 hnil3 hown
        go_wp2_with fail
        go_ret2
        exact put_fin hown3 hbel3 HCS.out (by rw [HE.out]; rfl)
      · have HE : Hid (encB r = [240 + r / 262144, 128 + r / 4096 % 64, 128 + r / 64 % 64, 128 + r % 64]) := by show encB r = _; unfold encB; rw [if_neg g1, if_neg g2, if_neg g3]
        go_wp2_with (first | (go_at_call 23; refine (group_any _ _ (by omega) (by omega)).mono ?_; rintro e w' ⟨rfl, rfl⟩) | (at_builtin; refine wpList_append_own _ rfl (.tmp 19) (.tmp 32) 22 rfl w.heap.size 5 i0 (.int .u8 0) 1 1 Try.underlying22 hi hz0 hz1 hz2 rfl (by decide) _ _ _ rfl (hown.alloc _) ⟨w2.heap.size, 0, none⟩ 4 4 [.int .u8 (240 + r / 262144), .int .u8 (128 + r / 4096 % 64), .int .u8 (128 + r / 64 % 64), .int .u8 (128 + r % 64)] rfl rfl ?h1 ?h2 ?h3 ?h4 ?h5 ?_))
        case h1 => exact cells_new w2 _ 5
        case h2 => intro u hu; simp at hu; rcases hu with rfl | rfl | rfl | rfl <;> rfl
        case h3 => unfold maxLen; omega
        case h4 => omega
        case h5 => simp; omega
        intro v' w3 hown3 hgrow3 hnil3
        have hbel3 := put_grow hb2 hw2 hgrow3
        clear hgrow3 hnil3 hown
        go_wp2_with fail
        go_ret2
        exact put_fin hown3 hbel3 HCS.out (by rw [HE.out]; rfl)
end Go.Proofs.Ytchepcokcbpmmaa
