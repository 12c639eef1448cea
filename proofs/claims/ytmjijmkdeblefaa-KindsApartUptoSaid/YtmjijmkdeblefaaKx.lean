/- Has a tree a part of one of two Ops? Closed, Static. -/
import Derived.Test.YtmjijmkdeblefaaKdY
import Derived.Test.YtmjijmkdeblefaaKdS
import Derived.Sort.QuietTacIn
import Derived.Test.YtmjijmkdeblefaaKpF
import Derived.Test.YtmjijmkdeblefaaKw
import Derived.Deep.QuietTactic
import Derived.BigQuiet
namespace Go.Proofs.Ytmjijmkdeblefaa
open Go.RowKit Go.Shelf LM
set_option linter.unusedVariables false
attribute [local go_sem] Oper.semAt_some

theorem asked_wide (P : Program) (o : Oper) (a : Act) (C : World → Prop) : Oper.askedIn Fence.wide P o a C := fun _ _ _ _ => trivial
/-- Two Ops side by side. -/
structure OpsAt (w : World) (b o : Nat) (x y : Int) : Prop where
  c0 : w.cell? ⟨b, o, none⟩ = some (.int .u8 x)
  c1 : w.cell? ⟨b, o + 1, none⟩ = some (.int .u8 y)
theorem OpsAt.below {w w' : World} {b o : Nat} {x y : Int} (h : OpsAt w b o x y) (hb : Below w.heap.size w w') : OpsAt w' b o x y :=
  ⟨(hb.cell (p := ⟨b, o, none⟩) (World.block_lt_of_cell? w _ h.c0)).trans h.c0, (hb.cell (p := ⟨b, o + 1, none⟩) (World.block_lt_of_cell? w _ h.c1)).trans h.c1⟩
theorem OpsAt.drewN {w : World} {b o : Nat} {x y : Int} (h : OpsAt w b o x y) (n : Nat) : OpsAt (w.drewN n) b o x y := h.below (below_drewN (Below.refl _ _) n)

/-- Is it one of two? -/
def twoB (x y v : Int) : Bool := decide (v = x) || decide (v = y)
def idx2 (x y v : Int) : Int := if v = x then 0 else if v = y then 1 else -1

set_option maxRecDepth 100000 in
theorem Index_any (b o c : Nat) (x y v : Int) (w : World) (h : OpsAt w b o x y) :
    Calls Try.prog 114 #[.slice (some ⟨b, o, none⟩) 2 c, .int .u8 v] w fun e w' => e = .returned (.int .i64 (idx2 x y v)) ∧ w = w' := by
  obtain ⟨c0, c1⟩ := h
  have HI : Hid (idx2 x y v = if v = x then 0 else if v = y then 1 else -1) := Lib.hid rfl
  generalize idx2 x y v = r at *
  by_cases h1 : v = x
  · have h1' : (v == x) = true := by simpa using h1
    have HR : Hid (r = 0) := Lib.hid (by rw [HI.out, if_pos h1])
    clear h1 HI
    go_enter Try.func114, Try.ntmps114
    go_wp2
    refine wp_loop_rounds 1 ?_
    rw [rounds_succ]
    go_wp2
    go_ret
    exact ⟨ret_int HR.out.symm, rfl⟩
  · have h1' : (v == x) = false := by simpa using h1
    by_cases h2 : v = y
    · have h2' : (v == y) = true := by simpa using h2
      have HR : Hid (r = 1) := Lib.hid (by rw [HI.out, if_neg h1, if_pos h2])
      clear h1 h2 HI
      go_enter Try.func114, Try.ntmps114
      go_wp2
      refine wp_loop_rounds 2 ?_
      rw [rounds_succ]
      go_wp2
      rw [rounds_succ]
      go_wp2
      go_ret
      exact ⟨ret_int HR.out.symm, rfl⟩
    · have h2' : (v == y) = false := by simpa using h2
      have HR : Hid (r = -1) := Lib.hid (by rw [HI.out, if_neg h1, if_neg h2])
      clear h1 h2 HI
      go_enter Try.func114, Try.ntmps114
      go_wp2
      refine wp_loop_rounds 3 ?_
      rw [rounds_succ]
      go_wp2
      rw [rounds_succ]
      go_wp2
      rw [rounds_succ]
      go_wp2
      go_ret
      exact ⟨ret_int HR.out.symm, rfl⟩

set_option maxRecDepth 100000 in
theorem Contains_any (b o c : Nat) (x y v : Int) (w : World) (h : OpsAt w b o x y) :
    Calls Try.prog 91 #[.slice (some ⟨b, o, none⟩) 2 c, .int .u8 v] w fun e w' => e = .returned (.bool (twoB x y v)) ∧ w = w' := by
  have HI := Lib.hid (Index_any b o c x y v w h)
  have HT : Hid (twoB x y v = decide (0 ≤ idx2 x y v)) := Lib.hid (by
    unfold twoB idx2
    by_cases h1 : v = x
    · simp [h1]
    · by_cases h2 : v = y
      · rw [if_neg h1, if_pos h2]; simp [h2]
      · rw [if_neg h1, if_neg h2]; simp [h1, h2])
  clear h
  generalize twoB x y v = t at *
  generalize idx2 x y v = r at *
  go_enter Try.func91, Try.ntmps91
  go_wp2_with (refine HI.out.mono ?_; rintro e w' ⟨rfl, rfl⟩)
  go_ret
  exact ⟨ret_bool (by rw [HT.out]), rfl⟩

/-- Has a part one of two Ops? -/
def hasB (x y : Int) (l : List (Hd × Fo)) : Bool := l.any fun p => twoB x y p.1.op
theorem hasB_append (x y : Int) (a b : List (Hd × Fo)) : hasB x y (a ++ b) = (hasB x y a || hasB x y b) := by simp [hasB]

/-- What is kept while nothing has been found. -/
structure HasA (w : World) (b c : Nat) (x y : Int) (pre : List (Hd × Fo)) (W : World) : Prop where
  ops : Boxed W (w.heap.size + 1) 102 (.slice (some ⟨b, 0, none⟩) 2 c)
  res : Boxed W (w.heap.size + 1 + 1) 4 (.bool false)
  no : hasB x y pre = false

set_option maxRecDepth 100000 in
set_option maxHeartbeats 2000000 in
theorem has_any (h : Hd) (f : Fo) (q : Option Addr) (cap : Nat) (b c : Nat) (x y : Int) (w : World) (hh : h.ok) (hf : SlF w q cap f) (hok : f.ok) (hsz : 1 + f.size ≤ 1099511627776) (hops : OpsAt w b 0 x y) :
    Calls Try.prog 61 #[.agg #[.int .u8 h.op, .string h.name, .int .i64 h.n, .slice q f.len cap], .slice (some ⟨b, 0, none⟩) 2 c] w fun e w' => e = .returned (.bool (hasB x y (flatL [(h, f)]))) ∧ Below w.heap.size w w' := by
  refine (callsIn_wide (n := 9)).1 ?_
  have hst := boxed_st w h f q cap hf
  have hall := length_one h f
  have HP := Lib.hid parts_any
  have HOPS := Lib.hid hops
  clear hops
  refine callsIn_of_wp_marks Try.func61 rfl trivial ?_ rfl
  simp only [Try.ntmps61, List.size_toArray, List.length_cons, List.length_nil, Nat.reduceAdd, Nat.reduceSub, Array.replicate_succ, Array.replicate_zero, List.push_toArray, List.append_toArray, List.nil_append, List.cons_append]
  gi_wp2_with (refine ⟨trivial, ?_⟩; gi_at_call 57; refine (callsIn_wide.2 (HP.out _ _)).mono ?_; rintro e w' ⟨rfl, rfl⟩)
  refine range_read rfl (by omega) (Bn := w.heap.size + 1 + 1 + 1) rfl trivial (w.heap.size, 0) ?c1 rfl _ ?c2 (h, f) hst ?c3 ?c4
    (fun pre D W => HasA w b c x y pre W) (fun k pre D W => k = .ret ∧ Boxed W (w.heap.size + 1 + 1) 4 (.bool true) ∧ hasB x y (flatL [(h, f)]) = true)
    (fun pre D X Y row hx hg hr => ⟨hx.ops.kept hg (fun e => by have := (hr _ e.symm).1; simp at this; omega), hx.res.kept hg (fun e => by have := (hr _ e.symm).1; simp at this; omega), hx.no⟩)
    (fun k pre D X Y row hx hg hr => ⟨hx.1, hx.2.1.kept hg (fun e => by have := (hr _ e.symm).1; simp at this; omega), hx.2.2⟩) ?c5
    ?a1 ?assign ?body ?done ?stop
  case assign =>
    intro l p W K hK
    gi_wp2
    exact hK
  case c1 => exact Boxed.cell (by have := Boxed.new (((w.alloc (.cells #[.int .u8 h.op, .string h.name, .int .i64 h.n, .slice q f.len cap] 25)).alloc (.cells #[.slice (some ⟨b, 0, none⟩) 2 c] 102)).alloc (.cells #[.bool false] 4)) 64 (.pointer (some ⟨w.heap.size, 0, none⟩)); simpa only [World.size_alloc] using this)
  case c2 => exact (((Below.refl _ _).alloc (by simp) _).alloc (by simp) _).alloc (by simp) _
  case c3 => intro t ht; simp at ht; subst ht; exact ⟨hh, hok⟩
  case c4 => rw [hall]; exact hsz
  case c5 =>
    have b1 := Boxed.new (w.alloc (.cells #[.int .u8 h.op, .string h.name, .int .i64 h.n, .slice q f.len cap] 25)) 102 (.slice (some ⟨b, 0, none⟩) 2 c)
    have b2 := Boxed.new ((w.alloc (.cells #[.int .u8 h.op, .string h.name, .int .i64 h.n, .slice q f.len cap] 25)).alloc (.cells #[.slice (some ⟨b, 0, none⟩) 2 c] 102)) 4 (.bool false)
    simp only [World.size_alloc] at b1 b2
    exact ⟨(b1.alloc _).alloc _, b2.alloc _, rfl⟩
  case body =>
    rintro l pre p0 rest p D W he hB ⟨q1, cap1, hhd, hsl⟩ hlt hx1 hx2 hW hD hA
    have c0 := hhd.c0
    have hpl := hhd.lt
    have hoc := hA.ops.cell
    have hrc := hA.res.cell
    have hrf := hA.res.frozen
    have hBw : Below w.heap.size w W := ((Below.refl _ _).alloc (Nat.le_refl _) _).trans (hB.mono (by simp))
    have HC : Hid (∀ n, Calls Try.prog 91 #[.slice (some ⟨b, 0, none⟩) 2 c, .int .u8 p0.1.op] (W.drewN n) fun e w' => e = .returned (.bool (twoB x y p0.1.op)) ∧ w' = W.drewN n) :=
      Lib.hid fun n => (Contains_any b 0 c x y p0.1.op _ ((HOPS.out.below hBw).drewN n)).mono fun e w' h => ⟨h.1, h.2.symm⟩
    have HA := Lib.hid hA
    have HE := Lib.hid he
    have hW' : w.heap.size + 1 + 1 + 1 ≤ W.heap.size := by simp at hW; omega
    clear hhd hA he hst hsl hBw
    cases ht : twoB x y p0.1.op
    · rw [ht] at HC
      have HN : Hid (hasB x y (pre ++ [p0]) = false) := Lib.hid (by rw [hasB_append, HA.out.no]; simp [hasB, ht])
      clear ht
      generalize p0.1.op = o1 at *
      gi_wp2
      refine region_quiet_round rfl (by kernel_rfl) (by kernel_rfl) (noDefer_spec (by kernel_rfl)) ?_
      repeat (quiet_step_in (fail))
      refine wpQuietIn_step (asked_wide _ _ _ _) (fun K hK => ?_)
      go_simp
      apply Exists.intro
      refine ⟨fun _ => ?_, hK _ ?_⟩
      · exact CallsIn.quiet_of_same (callsIn_wide.2 (HC.out _))
      clear hK K
      refine wpQuietIn_nil ?_
      intro _ hw'
      obtain ⟨nq, hw''⟩ := hw'
      subst hw''
      gi_wp2
      have hbd : Below W.heap.size W (W.drewN nq) := below_drewN (Below.refl _ _) nq
      exact ⟨D, Tch.of_below hbd, hbd.mono (by simp; omega), boxed_below HA.out.ops hbd, boxed_below HA.out.res hbd, HN.out⟩
    · rw [ht] at HC
      have HN : Hid (hasB x y (flatL [(h, f)]) = true) := Lib.hid (by rw [HE.out, hasB_append]; simp [hasB, ht])
      clear ht
      generalize p0.1.op = o1 at *
      gi_wp2
      refine region_quiet_round rfl (by kernel_rfl) (by kernel_rfl) (noDefer_spec (by kernel_rfl)) ?_
      repeat (quiet_step_in (fail))
      refine wpQuietIn_step (asked_wide _ _ _ _) (fun K hK => ?_)
      go_simp
      apply Exists.intro
      refine ⟨fun _ => ?_, hK _ ?_⟩
      · exact CallsIn.quiet_of_same (callsIn_wide.2 (HC.out _))
      clear hK K
      refine wpQuietIn_nil ?_
      intro _ hw'
      obtain ⟨nq, hw''⟩ := hw'
      subst hw''
      gi_wp2
      have hbd : Below W.heap.size W (W.drewN nq) := below_drewN (Below.refl _ _) nq
      have hg : W.grownBy ((W.drewN nq).setCell ⟨w.heap.size + 1 + 1, 0, none⟩ (.bool true)) (some (w.heap.size + 1 + 1)) := grown_of (w2 := W) (m := nq) (Below.refl _ _) (grownBy_setCell' _ _ _)
      exact ⟨D, Tch.grown hg (fun r e => by cases e; left; simp), (Below.refl _ _).grown hg (by simp; omega) (fun k e => by cases e; simp), rfl, Boxed.set (W := W.drewN nq) _ (boxed_below HA.out.res hbd), HN.out⟩
  case done =>
    rintro K D W hK hDK hB hA hKd
    have hc := hA.res.cell
    have hf := hA.res.frozen
    have HG : Hid (hasB x y (flatL [(h, f)]) = false) := Lib.hid hA.no
    have HR := Lib.hid hA.res
    have hW : w.heap.size + 4 ≤ W.heap.size := by have := hB.size; have := (Array.getElem?_eq_some_iff.1 hKd).1; simp at hK; omega
    clear hA hst
    have hg := grownBy_setCell' W (w.heap.size + 1 + 1) (.bool false)
    have hKd' : (W.setCell ⟨w.heap.size + 1 + 1, 0, none⟩ (.bool false)).heap[K]? = some (.deferred (some [])) := (hg.block K (Array.getElem?_eq_some_iff.1 hKd).1 (by intro e; cases e; simp at hK; omega)).trans hKd
    have HKD := Lib.hid hKd'
    clear hKd'
    gi_wp2
    refine ⟨by simp, .inl ⟨_, _, rfl, run_takeDeferred HKD.out, ?_⟩⟩
    have hg2 := grownBy_putObj' (W.setCell ⟨w.heap.size + 1 + 1, 0, none⟩ (.bool false)) K (.deferred none)
    have hc2 := ((HR.out.set (.bool false)).kept hg2 (by intro e; cases e; simp at hK; omega)).cell
    have hB2 : Below w.heap.size w W := ((Below.refl _ _).alloc (Nat.le_refl _) _).trans (hB.mono (by simp))
    refine ⟨.bool false, by simp [results, Try.results61, go_sem, hc2], by rw [HG.out], below_put (hB2.setCell (p := ⟨w.heap.size + 1 + 1, 0, none⟩) (by simp; omega) _) HKD.out (by simp at hK; omega)⟩
  case stop =>
    rintro K k pre rest D W hK hDK he hB ⟨rfl, hbox, hs⟩ hKd
    have hc := hbox.cell
    have HG := Lib.hid hs
    have HR := Lib.hid hbox
    clear hs hst
    gi_wp2
    refine ⟨by simp, .inl ⟨_, _, rfl, run_takeDeferred hKd, ?_⟩⟩
    have hg2 := grownBy_putObj' W K (.deferred none)
    have hc2 := (HR.out.kept hg2 (by intro e; cases e; simp at hK; omega)).cell
    have hB2 : Below w.heap.size w W := ((Below.refl _ _).alloc (Nat.le_refl _) _).trans (hB.mono (by simp))
    refine ⟨.bool true, by simp [results, Try.results61, go_sem, hc2], by rw [HG.out], below_put hB2 hKd (by simp at hK; omega)⟩

theorem ops_new (W : World) (x y : Int) : OpsAt (W.alloc (.cells #[.int .u8 x, .int .u8 y] 22)) W.heap.size 0 x y := by
  have := World.alloc_heap_new W (.cells #[.int .u8 x, .int .u8 y] 22)
  constructor <;> (simp only [World.cell?, this]; rfl)

set_option maxRecDepth 100000 in
theorem Closed_any (h : Hd) (k : Fo) (q : Option Addr) (cap : Nat) (w : World) (hh : h.ok) (hs : SlF w q cap k) (hok : k.ok) (hsz : 1 + k.size ≤ 1099511627776) :
    Calls Try.prog 17 #[.agg #[.int .u8 h.op, .string h.name, .int .i64 h.n, .slice q k.len cap]] w fun e w' => e = .returned (.bool ((rightB h k 1 || rightB h k 2) && !hasB 7 10 (flatL [(h, k)]))) ∧ Below w.heap.size w w' := by
  have HR : Hid (∀ w', Below w.heap.size w w' → Calls Try.prog 54 #[.agg #[.int .u8 h.op, .string h.name, .int .i64 h.n, .slice q k.len cap]] w' fun e w'' => e = .returned (.bool (rightB h k 1 || rightB h k 2)) ∧ Below w'.heap.size w' w'') :=
    Lib.hid fun w' hb => right_any h k q cap w' hh (hs.below hb) hok hsz
  have HH : Hid (∀ b c w', Below w.heap.size w w' → OpsAt w' b 0 7 10 → Calls Try.prog 61 #[.agg #[.int .u8 h.op, .string h.name, .int .i64 h.n, .slice q k.len cap], .slice (some ⟨b, 0, none⟩) 2 c] w' fun e w'' => e = .returned (.bool (hasB 7 10 (flatL [(h, k)]))) ∧ Below w'.heap.size w' w'') :=
    Lib.hid fun b c w' hb ho => has_any h k q cap b c 7 10 w' hh (hs.below hb) hok hsz ho
  have HX := Lib.hid (World.alloc_heap_new w (.cells #[.int .u8 h.op, .string h.name, .int .i64 h.n, .slice q k.len cap] 25))
  clear hs hh hok hsz
  generalize hasB 7 10 (flatL [(h, k)]) = z at *
  generalize (rightB h k 1 || rightB h k 2) = r at *
  generalize k.len = L at *
  cases r
  · go_enter Try.func17, Try.ntmps17
    go_wp2_with fail
    refine (HR.out _ (below_box _ _)).mono ?_
    rintro e w1 ⟨rfl, hb1⟩
    have HB1 := Lib.hid (below_then (below_box _ _) hb1)
    clear hb1
    go_wp2
    go_ret
    exact ⟨rfl, HB1.out⟩
  · go_enter Try.func17, Try.ntmps17
    go_wp2_with fail
    refine (HR.out _ (below_box _ _)).mono ?_
    rintro e w1 ⟨rfl, hb1⟩
    obtain ⟨x0, x1, x2, x3, _⟩ := row4 ((hb1.block _ (by simp)).trans HX.out)
    have HB1 := Lib.hid (below_then (below_box _ _) hb1)
    clear hb1
    go_wp2_with fail
    refine (HH.out _ _ _ (below_al HB1.out _) (ops_new _ _ _)).mono ?_
    rintro e w2 ⟨rfl, hb2⟩
    have HB2 := Lib.hid (below_then (below_al HB1.out _) hb2)
    clear hb2
    go_wp2
    go_ret
    exact ⟨ret_bool (by simp), HB2.out⟩

set_option maxRecDepth 100000 in
theorem Static_any (h : Hd) (k : Fo) (q : Option Addr) (cap : Nat) (w : World) (hh : h.ok) (hs : SlF w q cap k) (hok : k.ok) (hsz : 1 + k.size ≤ 1099511627776) :
    Calls Try.prog 18 #[.agg #[.int .u8 h.op, .string h.name, .int .i64 h.n, .slice q k.len cap]] w fun e w' => e = .returned (.bool ((rightB h k 1 || rightB h k 2) && !hasB 3 9 (flatL [(h, k)]))) ∧ Below w.heap.size w w' := by
  have HR : Hid (∀ w', Below w.heap.size w w' → Calls Try.prog 54 #[.agg #[.int .u8 h.op, .string h.name, .int .i64 h.n, .slice q k.len cap]] w' fun e w'' => e = .returned (.bool (rightB h k 1 || rightB h k 2)) ∧ Below w'.heap.size w' w'') :=
    Lib.hid fun w' hb => right_any h k q cap w' hh (hs.below hb) hok hsz
  have HH : Hid (∀ b c w', Below w.heap.size w w' → OpsAt w' b 0 3 9 → Calls Try.prog 61 #[.agg #[.int .u8 h.op, .string h.name, .int .i64 h.n, .slice q k.len cap], .slice (some ⟨b, 0, none⟩) 2 c] w' fun e w'' => e = .returned (.bool (hasB 3 9 (flatL [(h, k)]))) ∧ Below w'.heap.size w' w'') :=
    Lib.hid fun b c w' hb ho => has_any h k q cap b c 3 9 w' hh (hs.below hb) hok hsz ho
  have HX := Lib.hid (World.alloc_heap_new w (.cells #[.int .u8 h.op, .string h.name, .int .i64 h.n, .slice q k.len cap] 25))
  clear hs hh hok hsz
  generalize hasB 3 9 (flatL [(h, k)]) = z at *
  generalize (rightB h k 1 || rightB h k 2) = r at *
  generalize k.len = L at *
  cases r
  · go_enter Try.func18, Try.ntmps18
    go_wp2_with fail
    refine (HR.out _ (below_box _ _)).mono ?_
    rintro e w1 ⟨rfl, hb1⟩
    have HB1 := Lib.hid (below_then (below_box _ _) hb1)
    clear hb1
    go_wp2
    go_ret
    exact ⟨rfl, HB1.out⟩
  · go_enter Try.func18, Try.ntmps18
    go_wp2_with fail
    refine (HR.out _ (below_box _ _)).mono ?_
    rintro e w1 ⟨rfl, hb1⟩
    obtain ⟨x0, x1, x2, x3, _⟩ := row4 ((hb1.block _ (by simp)).trans HX.out)
    have HB1 := Lib.hid (below_then (below_box _ _) hb1)
    clear hb1
    go_wp2_with fail
    refine (HH.out _ _ _ (below_al HB1.out _) (ops_new _ _ _)).mono ?_
    rintro e w2 ⟨rfl, hb2⟩
    have HB2 := Lib.hid (below_then (below_al HB1.out _) hb2)
    clear hb2
    go_wp2
    go_ret
    exact ⟨ret_bool (by simp), HB2.out⟩
end Go.Proofs.Ytmjijmkdeblefaa

/- vars: the numbers of a tree's variables, by where they come first. -/
namespace Go.Proofs.Ytmjijmkdeblefaa
open Go.RowKit Go.Shelf LM
set_option linter.unusedVariables false
attribute [local go_sem] Oper.semAt_some

/-- The numbers of variables, each once, by where they come first. -/
def varsL (l : List (Hd × Fo)) : List Int := l.foldl (fun acc p => if isVarB p.1.op = true ∧ p.1.n ∉ acc then acc ++ [p.1.n] else acc) []
theorem varsL_snoc (l : List (Hd × Fo)) (p : Hd × Fo) : varsL (l ++ [p]) = if isVarB p.1.op = true ∧ p.1.n ∉ varsL l then varsL l ++ [p.1.n] else varsL l := by
  unfold varsL
  rw [List.foldl_append]
  rfl
theorem varsL_len (l : List (Hd × Fo)) : (varsL l).length ≤ l.length := by
  refine snoc_ind (P := fun l => (varsL l).length ≤ l.length) (Nat.le_refl _) (fun m q ih => ?_) l
  rw [varsL_snoc]
  split <;> simp <;> omega

/-- The map in block b holds which numbers came. -/
def VmIs (W : World) (b n : Nat) (l : List Int) : Prop :=
  ∃ D : DataW Unit, W.ownsMap Try.prog 3 (plainElem Try.prog 4) b n D ∧ Maps.IsMap D ∧ ∀ x : Int, D.atKey (.int .i64 x) (.lit (.bool false)) = .lit (.bool (decide (x ∈ l)))
theorem VmIs.start (w : World) : VmIs (w.alloc (.map #[] 0)) w.heap.size 0 [] :=
  ⟨.map [], World.ownsMap_made w _ _ _, by simp [Maps.IsMap], fun x => by simp; rfl⟩
theorem VmIs.kept {W W' : World} {row : Option Nat} {b n : Nat} {l : List Int} (h : VmIs W b n l) (hg : W.grownBy W' row) (hne : some b ≠ row) : VmIs W' b n l := by
  obtain ⟨D, h1, h2, h3⟩ := h
  exact ⟨D, h1.kept hg hne, h2, h3⟩
theorem VmIs.below {W W' : World} {b n : Nat} {l : List Int} (h : VmIs W b n l) (hb : Below W.heap.size W W') : VmIs W' b n l := h.kept (row := none) ⟨hb.os, hb.tape, hb.output, hb.size, fun k hk _ => hb.block k hk⟩ (by simp)
theorem VmIs.drewN {W : World} {b n : Nat} {l : List Int} (h : VmIs W b n l) (m : Nat) : VmIs (W.drewN m) b n l := h.below (below_drewN (Below.refl _ _) m)
theorem VmIs.mono {W : World} {b n m : Nat} {l : List Int} (h : VmIs W b n l) (hn : n ≤ m) : VmIs W b m l := by
  obtain ⟨D, h1, h2, h3⟩ := h
  exact ⟨D, h1.mono hn, h2, h3⟩
theorem VmIs.lt {W : World} {b n : Nat} {l : List Int} (h : VmIs W b n l) : b < W.heap.size := by
  obtain ⟨D, h1, h2, h3⟩ := h; exact h1.lt
theorem bool_inv {H : Type} {P : Program} {e : TypeId} (he : P.underlying e = some .bool) {v : Value} {z : DataW H × List MemPlace} (h : plainElem P e v = some z) : ∃ x, v = .bool x ∧ z = (.lit (.bool x), []) := by
  unfold plainElem at h
  rw [he] at h
  cases v <;> simp at h
  exact ⟨_, rfl, h.symm⟩
theorem VmIs.look {W : World} {b n : Nat} {l : List Int} (h : VmIs W b n l) {x : Int} (hx : (Lit.int .i64 x).wf = true) :
    (Instr.lookup 97 (.map (some b)) (.int .i64 x) false).run Try.prog W = .ok (.bool (decide (x ∈ l))) W := by
  obtain ⟨D, h1, h2, h3⟩ := h
  obtain ⟨v, ps, hr, hv⟩ := h1.lookup (Maps.int_keyed Try.underlying3) Try.underlying97 (Try.zeroValue4 _) (plainElem_bool Try.underlying4 false) (Maps.keyOf_int_mk Try.underlying3 hx)
  rw [h3 x] at hv
  obtain ⟨y, rfl, e⟩ := bool_inv Try.underlying4 hv
  simp only [Prod.mk.injEq, DataW.lit.injEq, Lit.bool.injEq] at e
  rw [hr, e.1]
theorem VmIs.store {W : World} {b n : Nat} {l : List Int} (h : VmIs W b n l) {x : Int} (hx : (Lit.int .i64 x).wf = true) (hn : n < maxLen) :
    ∃ w', (Instr.mapUpdate 97 (.map (some b)) (.int .i64 x) (.bool true)).run Try.prog W = .ok () w' ∧ VmIs w' b (n + 1) (l ++ [x]) ∧ W.grownBy w' (some b) := by
  obtain ⟨D, h1, h2, h3⟩ := h
  obtain ⟨w', hr, hown, hg⟩ := h1.update (Maps.int_keyed Try.underlying3) Try.underlying97 hn (Maps.keyOf_int_mk Try.underlying3 hx) (plainElem_bool Try.underlying4 true)
  refine ⟨w', hr, ⟨_, hown, h2.put _ _, fun y => ?_⟩, hg⟩
  by_cases hxy : x = y
  · subst hxy
    have hkl : WideAt.IsKeyLit (.int .i64 x) := by simp [WideAt.IsKeyLit]
    rw [Maps.atKey_put_same h2 hkl]
    simp
  · have hne : (Lit.int .i64 y) ≠ .int .i64 x := fun e => by cases e; exact hxy rfl
    rw [Maps.atKey_put_other hne, h3 y]
    have : y ≠ x := fun e => hxy e.symm
    simp [this]
-- GEN

theorem info3 : (Try.prog.info? 3).map (fun i => (i.zero, i.size, i.bytes)) = some (some (.int .i64 0), 1, 8) := by kernel_rfl
/-- What vars keeps while it goes along the parts. -/
structure VarA (w : World) (pre : List (Hd × Fo)) (D : Nat → Prop) (W : World) : Prop where
  mbox : Boxed W (w.heap.size + 1 + 1 + 1) 97 (.map (some (w.heap.size + 1 + 1)))
  mis : VmIs W (w.heap.size + 1 + 1) pre.length (varsL pre)
  lst : ∃ v, Boxed W (w.heap.size + 1) 29 v ∧ W.ownsRow (w.heap.size + 5) 3 1 v (varsL pre).length ((varsL pre).map (Value.int .i64)) ∧ ∀ g, v.ownBlock = some g → D g
theorem VarA.kept {w : World} {pre : List (Hd × Fo)} {D : Nat → Prop} {X Y : World} {row : Option Nat} (h : VarA w pre D X) (hg : X.grownBy Y row) (hr : ∀ r, row = some r → w.heap.size + 5 ≤ r ∧ ¬ D r) : VarA w pre D Y := by
  obtain ⟨h1, h2, v, h3, h4, h5⟩ := h
  have hv : v.ownBlock = none ∨ v.ownBlock ≠ row := by
    cases hv : v.ownBlock with
    | none => exact .inl rfl
    | some g => exact .inr fun e => (hr g e.symm).2 (h5 g hv)
  refine ⟨h1.kept hg (fun e => ?_), h2.kept hg (fun e => ?_), v, h3.kept hg (fun e => ?_), h4.kept hg hv, h5⟩
  all_goals (have := (hr _ e.symm).1; omega)
theorem VarA.skip {w : World} {pre : List (Hd × Fo)} {D : Nat → Prop} {W : World} (h : VarA w pre D W) {p : Hd × Fo} (hp : ¬ (isVarB p.1.op = true ∧ p.1.n ∉ varsL pre)) (nq : Nat) : VarA w (pre ++ [p]) D (W.drewN nq) := by
  have hb := below_drewN (Below.refl W.heap.size W) nq
  have h' := h.kept (Y := W.drewN nq) (row := none) ⟨hb.os, hb.tape, hb.output, hb.size, fun k hk _ => hb.block k hk⟩ (fun r e => by cases e)
  obtain ⟨h1, h2, h3⟩ := h'
  have e : varsL (pre ++ [p]) = varsL pre := by rw [varsL_snoc, if_neg hp]
  exact ⟨h1, by rw [e, List.length_append]; exact h2.mono (by omega), by rw [e]; exact h3⟩
theorem VarA.snoc {w : World} {pre : List (Hd × Fo)} {D : Nat → Prop} {W w3 w5 : World} {v v' : Value} {p : Hd × Fo} {L : Nat} {tmp : Obj} (h1 : Boxed W (w.heap.size + 1 + 1 + 1) 97 (.map (some (w.heap.size + 1 + 1))))
    (hp : isVarB p.1.op = true ∧ p.1.n ∉ varsL pre) (hL : (varsL pre).length = L) (hbp : Boxed W (w.heap.size + 1) 29 v) (hvD : ∀ g, v.ownBlock = some g → D g ∧ w.heap.size + 5 ≤ g) (hD : ∀ b, D b → b < W.heap.size) (h5 : w.heap.size + 5 ≤ W.heap.size)
    (hm3 : VmIs w3 (w.heap.size + 1 + 1) (pre.length + 1) (varsL pre ++ [p.1.n])) (hg3 : W.grownBy w3 (some (w.heap.size + 1 + 1)))
    (hown : w5.ownsRow (w.heap.size + 5) 3 1 v' (L + 1) ((varsL pre).map (Value.int .i64) ++ [.int .i64 p.1.n])) (hg : (w3.drew.alloc tmp).grownBy w5 v.ownBlock) (hat : v'.ownBlock = v.ownBlock ∨ v'.ownBlock = some (w3.drew.alloc tmp).heap.size) :
    Boxed w5 (w.heap.size + 1) 29 v ∧ ∃ D', Tch (w.heap.size + 5) D D' W (w5.setCell ⟨w.heap.size + 1, 0, none⟩ v') ∧ Below (w.heap.size + 1) W (w5.setCell ⟨w.heap.size + 1, 0, none⟩ v') ∧ VarA w (pre ++ [p]) D' (w5.setCell ⟨w.heap.size + 1, 0, none⟩ v') := by
  have hz3 := hg3.size
  have hsz : (w3.drew.alloc tmp).heap.size = w3.heap.size + 1 := by simp
  have hg1 := hg.size
  rw [hsz] at hg1 hat
  have hne : ∀ {b : Nat}, b < w.heap.size + 5 → some b ≠ v.ownBlock := fun hb e => by have := (hvD _ e.symm).2; omega
  have k3 : ∀ b, b < w3.heap.size → some b ≠ v.ownBlock → w5.heap[b]? = w3.heap[b]? := fun b hb hn => (hg.block b (by rw [hsz]; omega) hn).trans ((below_box w3.drew tmp).block b hb)
  have k1 : ∀ b, b < W.heap.size → b ≠ w.heap.size + 1 + 1 → some b ≠ v.ownBlock → w5.heap[b]? = W.heap[b]? := fun b hb hb2 hn => (k3 b (by omega) hn).trans (hg3.block b hb (fun e => hb2 (Option.some.inj e)))
  have hbp1 : Boxed w5 (w.heap.size + 1) 29 v := (k1 _ (by omega) (by omega) (hne (by omega))).trans hbp
  have hmb1 : Boxed w5 (w.heap.size + 1 + 1 + 1) 97 (.map (some (w.heap.size + 1 + 1))) := (k1 _ (by omega) (by omega) (hne (by omega))).trans h1
  have hset := grownBy_setCell' w5 (w.heap.size + 1) v'
  have hlt := hown.lt
  have hgw : w3.grownBy w5 v.ownBlock := ⟨hg.os, hg.tape, hg.output, by omega, fun k hk hne' => k3 k hk hne'⟩
  have e : varsL (pre ++ [p]) = varsL pre ++ [p.1.n] := by rw [varsL_snoc, if_pos hp]
  refine ⟨hbp1, fun b => D b ∨ v'.ownBlock = some b, ⟨?_, ?_, ?_, fun b h => .inl h⟩, ⟨?_, ?_, ?_, ?_, ?_⟩, hmb1.kept hset (fun e => by have := Option.some.inj e; omega), ?_, v', hbp1.set v', ?_, fun g hg => .inr hg⟩
  · have := hset.size; omega
  · intro b hb hlt2 hnd
    have hn : some b ≠ v.ownBlock := fun e => hnd (hvD b e.symm).1
    exact (hset.block b (by omega) (fun e => by have := Option.some.inj e; omega)).trans (k1 b hlt2 (by omega) hn)
  · rintro b (hb | hb)
    · exact .inl hb
    · rcases hat with e | e
      · exact .inl (hvD b (e ▸ hb)).1
      · right
        have hb2 : b = w3.heap.size + 1 := by rw [e] at hb; exact (Option.some.inj hb).symm
        have h6 := (hlt b hb).2
        have := hset.size
        exact ⟨by omega, by omega⟩
  · exact hset.os.trans (hgw.os.trans hg3.os)
  · exact hset.tape.trans (hgw.tape.trans hg3.tape)
  · exact hset.output.trans (hgw.output.trans hg3.output)
  · have := hset.size; omega
  · intro b hb
    exact (hset.block b (by omega) (fun e => by have := Option.some.inj e; omega)).trans (k1 b (by omega) (by omega) (hne (by omega)))
  · rw [e, List.length_append]
    exact (hm3.kept hgw (hne (by omega))).kept hset (fun e => by have := Option.some.inj e; omega)
  · rw [e, List.length_append, hL, List.map_append]
    have hk := hown.kept hset (.inr fun e => by have := (hlt _ e).1; omega)
    simpa using hk

theorem stepIn_append {F : Fence} {nF : Nat} {P : Program} {ops : Array Oper} {o : Oper} {a : Act} {w : World} {K : Act → World → Prop} {Q : Exit → Act → World → Prop} {E : Prop} (hg : o.guard = none) (s x : Operand) (t : TypeId) (ho : o.op = .call { callee := .builtin .append, args := #[s, x], argTypes := #[t, t] })
    (v sl : Value) (hs : a.eval s = v) (hx : a.eval x = sl) (v' : Value) (w' : World) (hr : (Builtin.append_ #[t, t] o.type #[v, sl]).run P w = .ok v' w') (hK : K (a.put o.dst v') w') :
    if Region.wanted o (yielded ops a.tmps) = true then Oper.wpIn F nF P o a w K Q else E := by
  have hw : Region.wanted o (yielded ops a.tmps) = true := by simp [Region.wanted, hg]
  rw [if_pos hw]
  unfold Oper.wpIn
  refine ⟨by simp [Oper.about, ho, resolve, Target.leads, Sem.run_pure], ?_⟩
  rw [Oper.semAt_plain F _ _ (by rw [ho]; intro c hc'; cases hc')]
  simp [execOp, ho, resolve, invoke, builtin, hs, hx, hr, Result.andThen]
  exact hK

/-- A list of numbers comes back. -/
def IntsPost (w : World) (l : List Int) (e : Ending) (w' : World) : Prop := ∃ v, e = .returned v ∧ w'.ownsRow w.heap.size 3 1 v l.length (l.map (Value.int .i64)) ∧ Below w.heap.size w w'

set_option maxRecDepth 100000 in
set_option maxHeartbeats 4000000 in
theorem vars_any (h : Hd) (f : Fo) (q : Option Addr) (cap : Nat) (w : World) (hh : h.ok) (hf : SlF w q cap f) (hok : f.ok) (hsz : 1 + f.size ≤ 1099511627776) :
    Calls Try.prog 56 #[.agg #[.int .u8 h.op, .string h.name, .int .i64 h.n, .slice q f.len cap]] w (IntsPost w (varsL (flatL [(h, f)]))) := by
  refine (callsIn_wide (n := 9)).1 ?_
  have hst := boxed_st w h f q cap hf
  have hall := length_one h f
  have HP := Lib.hid parts_any
  have hmm := @run_makeMap Try.prog
  obtain ⟨i0, hi, hz0, hz1, hz2⟩ := info_parts info3
  refine callsIn_of_wp_marks Try.func56 rfl trivial ?_ rfl
  simp only [Try.ntmps56, List.size_toArray, List.length_cons, List.length_nil, Nat.reduceAdd, Nat.reduceSub, Array.replicate_succ, Array.replicate_zero, List.push_toArray, List.append_toArray, List.nil_append, List.cons_append]
  gi_wp2_with (refine ⟨trivial, ?_⟩; gi_at_call 57; refine (callsIn_wide.2 (HP.out _ _)).mono ?_; rintro e w' ⟨rfl, rfl⟩)
  refine range_read rfl (by omega) (Bn := w.heap.size + 1 + 1 + 1 + 1) rfl trivial (w.heap.size, 0) ?c1 rfl _ ?c2 (h, f) hst ?c3 ?c4
    (fun pre D W => VarA w pre D W) (fun _ _ _ _ => False)
    ?hA (fun _ _ _ _ _ _ hx _ _ => hx.elim) ?c5 ?a1 ?assign ?body ?done ?stop
  case assign =>
    intro l p W K hK
    gi_wp2
    exact hK
  case c1 => exact Boxed.cell (by have := Boxed.new ((((w.alloc (.cells #[.int .u8 h.op, .string h.name, .int .i64 h.n, .slice q f.len cap] 25)).alloc (.cells #[.slice none 0 0] 29)).alloc (.map #[] 0)).alloc (.cells #[.map (some (w.heap.size + 1 + 1))] 97)) 64 (.pointer (some ⟨w.heap.size, 0, none⟩)); simpa only [World.size_alloc] using this)
  case c2 => exact ((((Below.refl _ _).alloc (by simp) _).alloc (by simp) _).alloc (by simp) _).alloc (by simp) _
  case c3 => intro t ht; simp at ht; subst ht; exact ⟨hh, hok⟩
  case c4 => rw [hall]; exact hsz
  case hA => exact fun pre D X Y row hx hg hr => hx.kept hg (fun r e => by have := hr r e; simpa using this)
  case c5 =>
    have b1 := Boxed.new (w.alloc (.cells #[.int .u8 h.op, .string h.name, .int .i64 h.n, .slice q f.len cap] 25)) 29 (.slice none 0 0)
    have b2 := Boxed.new (((w.alloc (.cells #[.int .u8 h.op, .string h.name, .int .i64 h.n, .slice q f.len cap] 25)).alloc (.cells #[.slice none 0 0] 29)).alloc (.map #[] 0)) 97 (.map (some (w.heap.size + 1 + 1)))
    have b3 := VmIs.start ((w.alloc (.cells #[.int .u8 h.op, .string h.name, .int .i64 h.n, .slice q f.len cap] 25)).alloc (.cells #[.slice none 0 0] 29))
    simp only [World.size_alloc] at b1 b2 b3
    exact ⟨b2.alloc _, (b3.kept (World.grownBy_alloc _ _ none) (by simp)).kept (World.grownBy_alloc _ _ none) (by simp), _, ((b1.alloc _).alloc _).alloc _, World.ownsRow_nil _ _ _ _, fun g hg => by cases hg⟩
  case body =>
    rintro l pre x rest p D W he hB ⟨q1, cap1, hhd, hsl⟩ hlt hx1 hx2 hW hD hA
    have c0 := hhd.c0
    have c2 := hhd.c2
    have hpl := hhd.lt
    have hW' : w.heap.size + 5 ≤ W.heap.size := by simp at hW; omega
    have h00 := hx1.op0
    have h01 := hx1.op1
    have hN := hx1.n0
    have hN' := hx1.n1
    have hlen : pre.length + 1 ≤ 1099511627776 := by rw [he] at hall; simp at hall; omega
    have hwf : (Lit.int .i64 x.1.n).wf = true := by simp [Lit.wf, IntKind.min, IntKind.max, IntKind.signed, IntKind.bits]; omega
    have HV : Hid (∀ n, Calls Try.prog 58 #[.int .u8 x.1.op] (W.drewN n) fun e w' => e = .returned (.bool (isVarB x.1.op)) ∧ w' = W.drewN n) := Lib.hid fun n => (isVar_any x.1.op _ h00 h01).mono fun e w' h => ⟨h.1, h.2.symm⟩
    have hmc := hA.mbox.cell
    have HA := Lib.hid hA
    have HSK := Lib.hid (fun (hp : ¬ (isVarB x.1.op = true ∧ x.1.n ∉ varsL pre)) nq => hA.skip hp nq)
    have HBD := Lib.hid (fun nq => below_drewN (Below.refl W.heap.size W) nq)
    clear hhd hA he hst hsl hall
    cases hv : isVarB x.1.op
    · rw [hv] at HV HSK
      have HSK2 := Lib.hid (fun nq => HSK.out (by simp) nq)
      clear hwf
      generalize x.1.op = o1 at *
      generalize x.1.n = o3 at *
      gi_wp2
      refine region_quiet_round rfl (by kernel_rfl) (by kernel_rfl) (noDefer_spec (by kernel_rfl)) ?_
      repeat (quiet_step_in (fail))
      refine wpQuietIn_step (asked_wide _ _ _ _) (fun K hK => ?_)
      go_simp
      apply Exists.intro
      refine ⟨fun _ => ?_, hK _ ?_⟩
      · exact CallsIn.quiet_of_same (callsIn_wide.2 (HV.out _))
      clear hK K
      repeat (quiet_step_in (fail))
      refine wpQuietIn_nil ?_
      intro _ hw'
      obtain ⟨nq, hw''⟩ := hw'
      subst hw''
      gi_wp2
      exact ⟨D, Tch.of_below (HBD.out nq), (HBD.out nq).mono (by simp; omega), HSK2.out nq⟩
    · rw [hv] at HV HSK
      have HVT := Lib.hid hv
      by_cases hin : x.1.n ∈ varsL pre
      · have HSK2 := Lib.hid (fun nq => HSK.out (by simp [hin]) nq)
        have hlk := fun m => (HA.out.mis.drewN m).look hwf
        have hdt : decide (x.1.n ∈ varsL pre) = true := by simpa using hin
        rw [hdt] at hlk
        clear hwf hdt hin HVT hv
        generalize x.1.op = o1 at *
        generalize x.1.n = o3 at *
        gi_wp2
        refine region_quiet_round rfl (by kernel_rfl) (by kernel_rfl) (noDefer_spec (by kernel_rfl)) ?_
        repeat (quiet_step_in (fail))
        refine wpQuietIn_step (asked_wide _ _ _ _) (fun K hK => ?_)
        go_simp
        apply Exists.intro
        refine ⟨fun _ => ?_, hK _ ?_⟩
        · exact CallsIn.quiet_of_same (callsIn_wide.2 (HV.out _))
        clear hK K
        repeat (quiet_step_in (fail))
        refine wpQuietIn_nil ?_
        intro _ hw'
        obtain ⟨nq, hw''⟩ := hw'
        subst hw''
        clear hlk
        gi_wp2
        exact ⟨D, Tch.of_below (HBD.out nq), (HBD.out nq).mono (by simp; omega), HSK2.out nq⟩
      · have hlk := fun m => (HA.out.mis.drewN m).look hwf
        have hdt : decide (x.1.n ∈ varsL pre) = false := by simpa using hin
        rw [hdt] at hlk
        have HIN := Lib.hid (And.intro hv hin)
        have HWF := Lib.hid hwf
        obtain ⟨v, hbp, hown, hvD⟩ := HA.out.lst
        obtain ⟨a, cp, rfl⟩ := own_value hown
        have hbc := hbp.cell
        have hbf := hbp.frozen
        have HBP := Lib.hid hbp
        have HO := Lib.hid hown
        have HVD2 : Hid (∀ g, (Value.slice a (varsL pre).length cp).ownBlock = some g → D g ∧ w.heap.size + 5 ≤ g) := Lib.hid fun g hg => ⟨hvD g hg, (hown.lt g hg).1⟩
        have HD := Lib.hid hD
        have hvl := varsL_len pre
        have hx1' := hx1
        clear hwf hdt hin HVT hv HSK hbp hown hvD hD
        generalize hLd : (varsL pre).length = L at *
        have HL := Lib.hid hLd
        clear hLd
        gi_wp2
        refine region_quiet_round rfl (by kernel_rfl) (by kernel_rfl) (noDefer_spec (by kernel_rfl)) ?_
        repeat (quiet_step_in (fail))
        refine wpQuietIn_step (asked_wide _ _ _ _) (fun K hK => ?_)
        go_simp
        apply Exists.intro
        refine ⟨fun _ => ?_, hK _ ?_⟩
        · exact CallsIn.quiet_of_same (callsIn_wide.2 (HV.out _))
        clear hK K
        repeat (quiet_step_in (fail))
        refine wpQuietIn_nil ?_
        intro _ hw'
        obtain ⟨nq, hw''⟩ := hw'
        subst hw''
        clear hlk
        gi_wp2
        obtain ⟨w3, hup, hm3, hg3⟩ := (HA.out.mis.drewN (nq + 1)).store HWF.out (by unfold maxLen; omega)
        have HM3 := Lib.hid hm3
        have hg3' : W.grownBy w3 (some (w.heap.size + 1 + 1)) := grown_of (w2 := W) (m := nq + 1) (Below.refl _ _) hg3
        have HG3 := Lib.hid hg3'
        clear hm3 hg3
        refine wpIn_once (a0 := { tmps := #[.agg #[.int .u8 h.op, .string h.name, .int .i64 h.n, .slice q f.len cap], .pointer (some ⟨w.heap.size, 0, none⟩), .slice none 0 0, .pointer (some ⟨w.heap.size + 1, 0, none⟩), .pointer (some ⟨w.heap.size + 1 + 1 + 1, 0, none⟩), .pointer (some ⟨p.1, p.2, none⟩), .map (some (w.heap.size + 1 + 1)), .func (.func 88) #[] #[.pointer (some ⟨w.heap.size + 1 + 1 + 1 + 1, 0, none⟩)], .pointer (some ⟨p.1, p.2, none⟩), .pointer (some ⟨p.1, p.2, none⟩), .pointer (some ⟨p.1, p.2, none⟩), .pointer (some ⟨p.1, p.2, none⟩), .int .u8 x.1.op, .bool true, .bool true, .map (some (w.heap.size + 1 + 1)), .pointer (some ⟨p.1, p.2, none⟩), .pointer (some ⟨p.1, p.2, none⟩), .pointer (some ⟨p.1, p.2 + 2, none⟩), .int .i64 x.1.n, .bool false, .bool true, .bool true, .map (some (w.heap.size + 1 + 1)), .pointer (some ⟨p.1, p.2, none⟩), .pointer (some ⟨p.1, p.2, none⟩), .pointer (some ⟨p.1, p.2 + 2, none⟩), .int .i64 x.1.n, undef, undef, undef, undef, undef, undef, undef, undef], defers := [] }) (w0 := w3) ?once1 ?once2
        case once1 =>
          refine region_round rfl (by kernel_rfl) (noDefer_spec (by kernel_rfl)) ?_
          refine wpAnyIn_take (i := 1) (v := _) rfl rfl (by kernel_rfl) (by kernel_rfl) (by kernel_rfl) (fun _ _ _ h => nomatch h.1) ⟨Or.inl ⟨by rfl, fun w => by go_simp; with_reducible rfl⟩, fun _ => rfl⟩ ?_
          refine wpAnyIn_take (i := 2) (v := _) rfl rfl (by kernel_rfl) (by kernel_rfl) (by kernel_rfl) (fun _ _ _ h => nomatch h.1) ⟨Or.inl ⟨by rfl, fun w => by go_simp; with_reducible rfl⟩, fun _ => rfl⟩ ?_
          refine wpAnyIn_take (i := 3) (v := _) rfl rfl (by kernel_rfl) (by kernel_rfl) (by kernel_rfl) (fun _ _ _ h => nomatch h.1) ⟨Or.inl ⟨by rfl, fun w => by go_simp; with_reducible rfl⟩, fun _ => rfl⟩ ?_
          refine wpAnyIn_ready (rs := [0, 4]) (by kernel_rfl) (by simp) (AllReadyIn.cons rfl (fun K hK => ?_) (AllReadyIn.cons rfl (fun K hK => ?_) AllReadyIn.nil))
          · (go_simp; refine hK _ _ ?_; clear hK K)
            refine wpAnyIn_ready (rs := [4]) (by kernel_rfl) (by simp) (AllReadyIn.cons rfl (fun K hK => ?_) AllReadyIn.nil)
            (go_simp; refine hK _ _ ?_; clear hK K)
            refine wpAnyIn_ready (rs := [5]) (by kernel_rfl) (by simp) (AllReadyIn.cons rfl (fun K hK => ?_) AllReadyIn.nil)
            (go_simp; refine hK _ _ ?_; clear hK K)
            refine wpAnyIn_done (by kernel_rfl) ?_ _
            exact ⟨rfl, rfl, rfl⟩
          · (go_simp; refine hK _ _ ?_; clear hK K)
            refine wpAnyIn_ready (rs := [0]) (by kernel_rfl) (by simp) (AllReadyIn.cons rfl (fun K hK => ?_) AllReadyIn.nil)
            (go_simp; refine hK _ _ ?_; clear hK K)
            refine wpAnyIn_ready (rs := [5]) (by kernel_rfl) (by simp) (AllReadyIn.cons rfl (fun K hK => ?_) AllReadyIn.nil)
            (go_simp; refine hK _ _ ?_; clear hK K)
            refine wpAnyIn_done (by kernel_rfl) ?_ _
            exact ⟨rfl, rfl, rfl⟩
        clear hup
        have hg3' := HG3.out
        have hbp3 : Boxed w3 (w.heap.size + 1) 29 (.slice a L cp) := HBP.out.kept hg3' (fun e => by have := Option.some.inj e; omega)
        have hbc3 := hbp3.cell
        have hpb : p.1 ≠ w.heap.size + 1 + 1 := fun e => by
          obtain ⟨Dm, ⟨es, clock, hbm, _⟩, _⟩ := HA.out.mis
          simp only [World.cell?] at c2
          rw [e, hbm] at c2
          simp at c2
        have c23 : w3.cell? ⟨p.1, p.2 + 2, none⟩ = some (.int .i64 x.1.n) := (World.cell?_of_block (a := ⟨p.1, p.2 + 2, none⟩) (hg3'.block _ hpl (fun e => hpb (Option.some.inj e)))).trans c2
        have hz3 := hg3'.size
        have hlz3 : w.heap.size + 1 < w3.heap.size := by omega
        have hown3 : w3.ownsRow (w.heap.size + 5) 3 1 (.slice a L cp) L ((varsL pre).map (Value.int .i64)) := HO.out.kept hg3' (by
          cases hvo : (Value.slice a L cp).ownBlock with
          | none => exact .inl rfl
          | some g => exact .inr fun e => by have := (HVD2.out g hvo).2; have := Option.some.inj e; omega)
        have hk1 := cell_one_new w3.drew (.int .i64 x.1.n) 3
        obtain ⟨v', w5, hrun, hown2, hgrow, _, hat⟩ := run_append_own_at (P := Try.prog) (w := w3.drew.alloc (.cells #[.int .i64 x.1.n] 3)) (w.heap.size + 5) 29 29 3 i0 (.int .i64 0) 1 8 Try.underlying29 hi hz0 hz1 hz2 (by decide) (by decide) (.slice a L cp) L ((varsL pre).map (Value.int .i64)) (hown3.drew.alloc _) ⟨w3.heap.size, 0, none⟩ 1 1 [.int .i64 x.1.n] rfl hk1 (by simp [Value.oneCell']) (by unfold maxLen; omega) (by omega) (by simp; omega)
        obtain ⟨a5, cp5, rfl⟩ := own_value hown2
        have HRUN : Hid ((Builtin.append_ #[29, 29] 29 #[.slice a L cp, .slice (some ⟨w3.heap.size, 0, none⟩) 1 1]).run Try.prog (w3.alloc (.cells #[.int .i64 x.1.n] 3)).drew = .ok (.slice a5 (L + 1) cp5) w5) := Lib.hid hrun
        obtain ⟨hb5, hfin5⟩ := VarA.snoc (p := x) HA.out.mbox HIN.out HL.out HBP.out HVD2.out HD.out hW' HM3.out hg3' hown2 hgrow hat
        have hc5 := hb5.cell
        have hf5 := hb5.frozen
        have HF5 := Lib.hid hfin5
        clear hown2 hgrow hat hfin5 hown3 hk1 hbp3 hg3' hpb hrun
        gi_wp2
        refine wpIn_once (a0 := { tmps := #[.agg #[.int .u8 h.op, .string h.name, .int .i64 h.n, .slice q f.len cap], .pointer (some ⟨w.heap.size, 0, none⟩), .slice none 0 0, .pointer (some ⟨w.heap.size + 1, 0, none⟩), .pointer (some ⟨w.heap.size + 1 + 1 + 1, 0, none⟩), .pointer (some ⟨p.1, p.2, none⟩), .map (some (w.heap.size + 1 + 1)), .func (.func 88) #[] #[.pointer (some ⟨w.heap.size + 1 + 1 + 1 + 1, 0, none⟩)], .pointer (some ⟨p.1, p.2, none⟩), .pointer (some ⟨p.1, p.2, none⟩), .pointer (some ⟨p.1, p.2, none⟩), .pointer (some ⟨p.1, p.2, none⟩), .int .u8 x.1.op, .bool true, .bool true, .map (some (w.heap.size + 1 + 1)), .pointer (some ⟨p.1, p.2, none⟩), .pointer (some ⟨p.1, p.2, none⟩), .pointer (some ⟨p.1, p.2 + 2, none⟩), .int .i64 x.1.n, .bool false, .bool true, .bool true, .map (some (w.heap.size + 1 + 1)), .pointer (some ⟨p.1, p.2, none⟩), .pointer (some ⟨p.1, p.2, none⟩), .pointer (some ⟨p.1, p.2 + 2, none⟩), .int .i64 x.1.n, .slice a L cp, .pointer (some ⟨p.1, p.2, none⟩), .pointer (some ⟨p.1, p.2, none⟩), .pointer (some ⟨p.1, p.2 + 2, none⟩), .int .i64 x.1.n, .slice (some ⟨w3.heap.size, 0, none⟩) 1 1, .slice a5 (L + 1) cp5, undef], defers := [] }) (w0 := w5.setCell ⟨w.heap.size + 1, 0, none⟩ (.slice a5 (L + 1) cp5)) ?once3 ?once4
        case once3 =>
          refine region_round rfl (by kernel_rfl) (noDefer_spec (by kernel_rfl)) ?_
          refine wpAnyIn_take (i := 1) (v := _) rfl rfl (by kernel_rfl) (by kernel_rfl) (by kernel_rfl) (fun _ _ _ h => nomatch h.1) ⟨Or.inl ⟨by rfl, fun w => by go_simp; with_reducible rfl⟩, fun _ => rfl⟩ ?_
          refine wpAnyIn_take (i := 2) (v := _) rfl rfl (by kernel_rfl) (by kernel_rfl) (by kernel_rfl) (fun _ _ _ h => nomatch h.1) ⟨Or.inl ⟨by rfl, fun w => by go_simp; with_reducible rfl⟩, fun _ => rfl⟩ ?_
          refine wpAnyIn_take (i := 3) (v := _) rfl rfl (by kernel_rfl) (by kernel_rfl) (by kernel_rfl) (fun _ _ _ h => nomatch h.1) ⟨Or.inl ⟨by rfl, fun w => by go_simp; with_reducible rfl⟩, fun _ => rfl⟩ ?_
          refine wpAnyIn_ready (rs := [0, 4]) (by kernel_rfl) (by simp) (AllReadyIn.cons rfl (fun K hK => ?_) (AllReadyIn.cons rfl (fun K hK => ?_) AllReadyIn.nil))
          · (go_simp; refine hK _ _ ?_; clear hK K)
            refine wpAnyIn_ready (rs := [4]) (by kernel_rfl) (by simp) (AllReadyIn.cons rfl (fun K hK => ?_) AllReadyIn.nil)
            (go_simp; refine hK _ _ ?_; clear hK K)
            refine wpAnyIn_ready (rs := [5]) (by kernel_rfl) (by simp) (AllReadyIn.cons rfl (fun K hK => ?_) AllReadyIn.nil)
            (go_simp; refine hK _ _ ?_; clear hK K)
            refine wpAnyIn_ready (rs := [6]) (by kernel_rfl) (by simp) (AllReadyIn.cons rfl (fun K hK => ?_) AllReadyIn.nil)
            (refine stepIn_append rfl (.tmp 28) (.tmp 33) 29 rfl _ _ rfl rfl _ _ HRUN.out ?_; go_simp; refine hK _ _ ?_; clear hK K)
            refine wpAnyIn_ready (rs := [7]) (by kernel_rfl) (by simp) (AllReadyIn.cons rfl (fun K hK => ?_) AllReadyIn.nil)
            (go_simp; refine hK _ _ ?_; clear hK K)
            refine wpAnyIn_done (by kernel_rfl) ?_ _
            exact ⟨rfl, rfl, rfl⟩
          · (go_simp; refine hK _ _ ?_; clear hK K)
            refine wpAnyIn_ready (rs := [0, 5]) (by kernel_rfl) (by simp) (AllReadyIn.cons rfl (fun K hK => ?_) (AllReadyIn.cons rfl (fun K hK => ?_) AllReadyIn.nil))
            · (go_simp; refine hK _ _ ?_; clear hK K)
              refine wpAnyIn_ready (rs := [5]) (by kernel_rfl) (by simp) (AllReadyIn.cons rfl (fun K hK => ?_) AllReadyIn.nil)
              (go_simp; refine hK _ _ ?_; clear hK K)
              refine wpAnyIn_ready (rs := [6]) (by kernel_rfl) (by simp) (AllReadyIn.cons rfl (fun K hK => ?_) AllReadyIn.nil)
              (refine stepIn_append rfl (.tmp 28) (.tmp 33) 29 rfl _ _ rfl rfl _ _ HRUN.out ?_; go_simp; refine hK _ _ ?_; clear hK K)
              refine wpAnyIn_ready (rs := [7]) (by kernel_rfl) (by simp) (AllReadyIn.cons rfl (fun K hK => ?_) AllReadyIn.nil)
              (go_simp; refine hK _ _ ?_; clear hK K)
              refine wpAnyIn_done (by kernel_rfl) ?_ _
              exact ⟨rfl, rfl, rfl⟩
            · (go_simp; refine hK _ _ ?_; clear hK K)
              refine wpAnyIn_ready (rs := [0]) (by kernel_rfl) (by simp) (AllReadyIn.cons rfl (fun K hK => ?_) AllReadyIn.nil)
              (go_simp; refine hK _ _ ?_; clear hK K)
              refine wpAnyIn_ready (rs := [6]) (by kernel_rfl) (by simp) (AllReadyIn.cons rfl (fun K hK => ?_) AllReadyIn.nil)
              (refine stepIn_append rfl (.tmp 28) (.tmp 33) 29 rfl _ _ rfl rfl _ _ HRUN.out ?_; go_simp; refine hK _ _ ?_; clear hK K)
              refine wpAnyIn_ready (rs := [7]) (by kernel_rfl) (by simp) (AllReadyIn.cons rfl (fun K hK => ?_) AllReadyIn.nil)
              (go_simp; refine hK _ _ ?_; clear hK K)
              refine wpAnyIn_done (by kernel_rfl) ?_ _
              exact ⟨rfl, rfl, rfl⟩
        gi_wp2
        obtain ⟨D', x1, x2, x3⟩ := HF5.out
        exact ⟨D', by simpa using x1, by simpa using x2, x3⟩
  case done =>
    rintro K D W hK hDK hB hA hKd
    obtain ⟨v, hbp, hown, hvD⟩ := hA.lst
    have hpc := hbp.cell
    have hv : v.ownBlock = none ∨ v.ownBlock ≠ some K := by
      cases hv : v.ownBlock with
      | none => exact .inl rfl
      | some g => exact .inr fun e => hDK ((Option.some.inj e) ▸ hvD g hv)
    have HE : Hid (∀ W', W.grownBy W' (some K) → IntsPost w (varsL (flatL [(h, f)])) (.returned v) W') := Lib.hid fun W' hg => by
      have hb0 : Below w.heap.size w W := ((Below.refl _ _).alloc (Nat.le_refl _) _).trans (hB.mono (by simp))
      exact ⟨v, rfl, own_base (hown.kept hg hv) (by omega), hb0.grown hg hb0.size (fun k e => by have := Option.some.inj e; simp at hK; omega)⟩
    clear hbp hown hvD hv hst hA
    gi_wp2
    refine ⟨by simp, .inl ⟨_, _, rfl, run_takeDeferred hKd, ?_⟩⟩
    refine ⟨_, results_tmp rfl _ _ _, ?_⟩
    exact HE.out _ (grownBy_putObj' W K _)
  case stop =>
    rintro K c pre rest D W hK hDK he hB hx hKd
    exact hx.elim
end Go.Proofs.Ytmjijmkdeblefaa

/- Numbering anew: plain words, the map of numbers, what Number's loop keeps. -/
namespace Go.Proofs.Ytmjijmkdeblefaa
open Go.RowKit Go.Shelf LM
set_option linter.unusedVariables false

/-- A number's place; -1: none. -/
def atL (l : List Int) (n : Int) : Int := if n ∈ l then (l.idxOf n : Nat) else -1
def numH (l : List Int) (h : Hd) : Hd := if isVarB h.op = true then ⟨h.op, h.name, atL l h.n⟩ else h
def numF (l : List Int) : Fo → Fo
  | .nil => .nil
  | .cons h k r => .cons (numH l h) (numF l k) (numF l r)
theorem numF_len (l : List Int) (f : Fo) : (numF l f).len = f.len := by
  induction f with
  | nil => rfl
  | cons h k r _ ih => simp only [numF, Fo.len, ih]
theorem numF_size (l : List Int) (f : Fo) : (numF l f).size = f.size := by
  induction f with
  | nil => rfl
  | cons h k r ihk ih => simp only [numF, Fo.size, ih, ihk]
theorem mapG_num (l : List Int) (f : Fo) : mapG (fun h k => (numH l h, numF l k)) f = numF l f := by
  induction f with
  | nil => rfl
  | cons h k r _ ih => simp only [mapG, numF, ih]
theorem varsL_nodup (l : List (Hd × Fo)) : (varsL l).Nodup := by
  refine snoc_ind (P := fun l => (varsL l).Nodup) List.nodup_nil (fun m q ih => ?_) l
  rw [varsL_snoc]
  split
  · next h => exact List.nodup_append.2 ⟨ih, by simp, fun a ha b hb e => by simp at hb; subst hb; subst e; exact h.2 ha⟩
  · exact ih
theorem varsL_mem (l : List (Hd × Fo)) : ∀ x ∈ l, isVarB x.1.op = true → x.1.n ∈ varsL l := by
  refine snoc_ind (P := fun l => ∀ x ∈ l, isVarB x.1.op = true → x.1.n ∈ varsL l) (fun x hx => by cases hx) (fun m q ih x hx hv => ?_) l
  rw [varsL_snoc]
  rcases List.mem_append.1 hx with h1 | h1
  · split
    · exact List.mem_append.2 (.inl (ih x h1 hv))
    · exact ih x h1 hv
  · simp at h1
    subst h1
    by_cases hm : x.1.n ∈ varsL m
    · rw [if_neg (by simp [hm])]; exact hm
    · rw [if_pos ⟨hv, hm⟩]; simp

/-- A number's place in the map; 0: none. -/
def numOf (m : List Int) (x : Int) : Int := if x ∈ m then (m.idxOf x : Nat) else 0
theorem numOf_snoc (m : List Int) (n x : Int) (hn : n ∉ m) : numOf (m ++ [n]) x = if x = n then (m.length : Int) else numOf m x := by
  unfold numOf
  by_cases h : x = n
  · subst h
    rw [if_pos (by simp), if_pos rfl, List.idxOf_append, if_neg hn]; simp
  · rw [if_neg h]
    by_cases hx : x ∈ m
    · rw [if_pos (by simp [hx]), if_pos hx, List.idxOf_append, if_pos hx]
    · rw [if_neg (by simp [hx, h]), if_neg hx]
def NmIs (W : World) (b n : Nat) (m : List Int) : Prop :=
  ∃ D : DataW Unit, W.ownsMap Try.prog 3 (plainElem Try.prog 3) b n D ∧ Maps.IsMap D ∧ ∀ x : Int, D.atKey (.int .i64 x) (.lit (.int .i64 0)) = .lit (.int .i64 (numOf m x))
theorem NmIs.start (w : World) : NmIs (w.alloc (.map #[] 0)) w.heap.size 0 [] :=
  ⟨.map [], World.ownsMap_made w _ _ _, by simp [Maps.IsMap], fun x => rfl⟩
theorem NmIs.kept {W W' : World} {row : Option Nat} {b n : Nat} {m : List Int} (h : NmIs W b n m) (hg : W.grownBy W' row) (hne : some b ≠ row) : NmIs W' b n m := by
  obtain ⟨D, h1, h2, h3⟩ := h
  exact ⟨D, h1.kept hg hne, h2, h3⟩
theorem NmIs.below {W W' : World} {b n : Nat} {m : List Int} (h : NmIs W b n m) (hb : Below W.heap.size W W') : NmIs W' b n m := h.kept (row := none) ⟨hb.os, hb.tape, hb.output, hb.size, fun k hk _ => hb.block k hk⟩ (by simp)
theorem NmIs.drewN {W : World} {b n : Nat} {m : List Int} (h : NmIs W b n m) (k : Nat) : NmIs (W.drewN k) b n m := h.below (below_drewN (Below.refl _ _) k)
theorem NmIs.lt {W : World} {b n : Nat} {m : List Int} (h : NmIs W b n m) : b < W.heap.size := by
  obtain ⟨D, h1, h2, h3⟩ := h; exact h1.lt
theorem NmIs.obj {W : World} {b n : Nat} {m : List Int} (h : NmIs W b n m) : ∃ es c, W.heap[b]? = some (.map es c) := by
  obtain ⟨D, ⟨es, c, h1, _⟩, _⟩ := h; exact ⟨es, c, h1⟩
theorem NmIs.look {W : World} {b n : Nat} {m : List Int} (h : NmIs W b n m) {x : Int} (hx : (Lit.int .i64 x).wf = true) :
    (Instr.lookup 60 (.map (some b)) (.int .i64 x) false).run Try.prog W = .ok (.int .i64 (numOf m x)) W := by
  obtain ⟨D, h1, h2, h3⟩ := h
  obtain ⟨c, hr, hc, _⟩ := h1.lookup_int (Maps.int_keyed Try.underlying3) Try.underlying60 Try.underlying3 (Try.zeroValue3 _) (Maps.keyOf_int_mk Try.underlying3 hx)
  rw [h3 x] at hc
  simp only [DataW.lit.injEq, Lit.int.injEq, true_and] at hc
  rw [hr, hc]
theorem NmIs.store {W : World} {b : Nat} {m : List Int} (h : NmIs W b m.length m) {x : Int} (hx : (Lit.int .i64 x).wf = true) (hn : m.length < 1099511627776) (hm : x ∉ m) :
    ∃ w', (Instr.mapUpdate 60 (.map (some b)) (.int .i64 x) (.int .i64 (m.length : Nat))).run Try.prog W = .ok () w' ∧ NmIs w' b (m ++ [x]).length (m ++ [x]) ∧ W.grownBy w' (some b) := by
  obtain ⟨D, h1, h2, h3⟩ := h
  have hl : (Lit.int .i64 (m.length : Nat)).wf = true := by simp [Lit.wf, IntKind.min, IntKind.max, IntKind.signed, IntKind.bits]; omega
  obtain ⟨w', hr, hown, hg⟩ := h1.update (Maps.int_keyed Try.underlying3) Try.underlying60 (by unfold maxLen; omega) (Maps.keyOf_int_mk Try.underlying3 hx) (plainElem_int Try.underlying3 hl)
  refine ⟨w', hr, ⟨_, by rw [List.length_append]; exact hown, h2.put _ _, fun y => ?_⟩, hg⟩
  rw [numOf_snoc m x y hm]
  by_cases hxy : x = y
  · subst hxy
    have hkl : WideAt.IsKeyLit (.int .i64 x) := by simp [WideAt.IsKeyLit]
    rw [Maps.atKey_put_same h2 hkl, if_pos rfl]
  · have hne : (Lit.int .i64 y) ≠ .int .i64 x := fun e => by cases e; exact hxy rfl
    rw [Maps.atKey_put_other hne, h3 y, if_neg (fun e => hxy e.symm)]

/-- Each part's number is a number, and each variable's is in the list. -/
def gd (l : List Int) (f : Fo) : Prop := ∀ x ∈ f.flat, x.1.ok ∧ (isVarB x.1.op = true → x.1.n ∈ l)
theorem gd_cons {l : List Int} {h : Hd} {k r : Fo} : gd l (.cons h k r) ↔ (h.ok ∧ (isVarB h.op = true → h.n ∈ l)) ∧ gd l k ∧ gd l r := by
  unfold gd
  simp only [Fo.flat, List.mem_cons, List.mem_append]
  constructor
  · intro H
    exact ⟨H (h, k) (.inl rfl), fun x hx => H x (.inr (.inl hx)), fun x hx => H x (.inr (.inr hx))⟩
  · rintro ⟨a, b, c⟩ x (rfl | hx | hx)
    · exact a
    · exact b x hx
    · exact c x hx

/-- A part that is still to come. -/
def PendM (l : List Int) : PendT := fun w b o h kf F => ∃ h0 k q cap, h = numH l h0 ∧ kf = numF l k ∧ k.size ≤ 1099511627776 ∧ gd l (.cons h0 k .nil) ∧ HdAt w b o h0 q k.len cap ∧ OwnF w q k F
theorem PendM.loc (l : List Int) : LocP (PendM l) := fun w w' b o h kf F ⟨h0, k, q, cap, e1, e2, hz, hg, hh, ho⟩ hc hF => ⟨h0, k, q, cap, e1, e2, hz, hg, hh.cells hc, ho.keep hF⟩
theorem PT.pendM (l : List Int) {w : World} {b : Nat} : ∀ {f : Fo} {o : Nat} {F : List Nat}, PT PendN w f b o [] [] F → gd l f → f.size ≤ 1099511627776 → PT (PendM l) w (numF l f) b o (kidsP b o f.len) (numF l f).toList F
  | .nil, o, F, hp, _, _ => ⟨rfl, rfl, hp.2.2⟩
  | .cons h k r, o, F, hp, hg, hz => by
    obtain ⟨q, cap, F1, F2, hh, ho, rfl, hr⟩ := hp.un
    obtain ⟨g1, g2, g3⟩ := gd_cons.1 hg
    simp only [Fo.size] at hz
    exact ⟨[(b, o)], kidsP b (o + 4) r.len, [(numH l h, numF l k)], (numF l r).toList, F1, F2, kidsP_succ b o r.len, rfl, rfl, PT.pendM l hr g3 (by omega), .inl ⟨rfl, rfl, h, k, q, cap, rfl, rfl, by omega, gd_cons.2 ⟨g1, g2, fun x hx => by cases hx⟩, hh, ho⟩⟩

structure NumI (w : World) (l : List Int) (b0 bm mo N : Nat) (h : Hd) (f : Fo) (k : Nat) (st : List Pl) (ts : List (Hd × Fo)) (F : List Nat) (W : World) : Prop where
  n : k = (flatL ts).length
  small : k ≤ 1099511627776
  pt : PT (PendM l) W (.cons h f .nil) b0 0 st ts F
  nd : (b0 :: F).Nodup
  big : ∀ c ∈ b0 :: F, w.heap.size + 2 ≤ c ∧ c < N
  row : RowB W b0
  res : W.heap[w.heap.size + 1]? = some (.cells #[.int .u8 0, .string ⟨#[]⟩, .int .i64 0, .slice none 0 0] 25 (0, 0))
  mb : Boxed W bm 60 (.map (some mo))
  mi : NmIs W mo l.length l
  below : Below w.heap.size w W
  base : w.heap.size + 2 ≤ bm ∧ bm < N ∧ mo < N
  room : N ≤ W.heap.size

theorem NumI.kept {w : World} {l : List Int} {b0 bm mo N : Nat} {h : Hd} {f : Fo} {k : Nat} {st : List Pl} {ts : List (Hd × Fo)} {F : List Nat} {X Y : World} {row : Option Nat} (hx : NumI w l b0 bm mo N h f k st ts F X) (hg : X.grownBy Y row) (hr : ∀ r, row = some r → N ≤ r) : NumI w l b0 bm mo N h f k st ts F Y := by
  have hb := hx.base
  have hl2 := (Array.getElem?_eq_some_iff.1 hx.res).1
  have kp : ∀ c, c < N → c < X.heap.size → Y.heap[c]? = X.heap[c]? := fun c h1 h2 => hg.block c h2 (fun e => by have := hr c e.symm; omega)
  have hroom := hx.room
  have e1 := kp b0 (hx.big b0 (by simp)).2 hx.row.lt
  refine ⟨hx.n, hx.small, hx.pt.keep (PendM.loc l) (fun i _ => cell_same e1 i) (fun c hc => kp c (hx.big c (by simp [hc])).2 (by have := (hx.big c (by simp [hc])).2; omega)), hx.nd, hx.big, hx.row.same e1, (kp _ (by omega) hl2).trans hx.res, hx.mb.kept hg (fun e => by have := hr _ e.symm; omega), hx.mi.kept hg (fun e => by have := hr _ e.symm; omega), hx.below.grown hg hx.below.size (fun r e => by have := hr r e; omega), hb, Nat.le_trans hroom hg.size⟩

/-- The next part is come to: what it says of memory, and how the whole goes on. -/
theorem NumI.step {w : World} {l : List Int} {b0 bm mo N : Nat} {h : Hd} {f : Fo} {k : Nat} {p : Pl} {st : List Pl} {ts : List (Hd × Fo)} {F : List Nat} {D : Nat → Prop} {W : World} (hx : NumI w l b0 bm mo N h f k (p :: st) ts F W) :
    ∃ h0 q len cap, HdAt W p.1 p.2 h0 q len cap ∧ h0.ok ∧ (isVarB h0.op = true → h0.n ∈ l) ∧ RowB W p.1 ∧ p.1 < N ∧ w.heap.size + 2 ≤ p.1 ∧ p.1 ≠ bm ∧ p.1 ≠ mo ∧
      ∀ W' : World, W.grownBy W' (some p.1) → (∀ i, i < p.2 ∨ p.2 + 4 ≤ i → W'.cell? ⟨p.1, i, none⟩ = W.cell? ⟨p.1, i, none⟩) → RowB W' p.1 → HdAt W' p.1 p.2 (numH l h0) q len cap →
        Next N k p st (fun k st D W => ∃ ts F, NumI w l b0 bm mo N h f k st ts F W) D W W' := by
  cases ts with
  | nil => have := hx.pt.stlen; simp at this
  | cons t ts =>
  obtain ⟨Fp, A, B, rfl, ⟨h0, k0, q, cap, e1, e2, hz, hgd, hh, ho⟩, hpl, hrow, hgo⟩ := hx.pt.step (PendM.loc l) hx.nd
  obtain ⟨⟨g1, g2⟩, g3, _⟩ := gd_cons.1 hgd
  have hrp := hrow hx.row
  have hroom := hx.room
  have hmem : p.1 ∈ b0 :: (A ++ Fp ++ B) := by
    rcases hpl with h1 | h1
    · simp [h1.1]
    · simp [h1]
  have hbig := hx.big p.1 hmem
  have hpbm : p.1 ≠ bm := fun e => by
    obtain ⟨cs, hc⟩ := hrp
    have := hx.mb
    rw [e] at hc
    unfold Boxed at this
    rw [hc] at this
    cases this
  have hpmo : p.1 ≠ mo := fun e => by
    obtain ⟨cs, hc⟩ := hrp
    obtain ⟨es, c, hm⟩ := hx.mi.obj
    rw [e, hm] at hc
    cases hc
  refine ⟨h0, q, k0.len, cap, hh, g1, g2, hrp, hbig.2, hbig.1, hpbm, hpmo, fun W' hg hcs hrW hd => ?_⟩
  have hn : k = 1 + t.2.flat.length + (flatL ts).length := by have := hx.n; simp [flatL] at this; omega
  have hnd := hx.nd
  have hpFp : p.1 ∉ Fp := fun hc => by
    rw [List.nodup_cons, List.nodup_append, List.nodup_append] at hnd
    rcases hpl with h1 | h1
    · exact hnd.1 (by rw [← h1.1]; simp [hc])
    · exact hnd.2.1.2.2 p.1 h1 p.1 hc rfl
  have kp : ∀ c, c < W.heap.size → c ≠ p.1 → W'.heap[c]? = W.heap[c]? := fun c h1 h2 => hg.block c h1 (fun e => h2 (Option.some.inj e))
  have hlt : ∀ c ∈ b0 :: (A ++ Fp ++ B), c < W.heap.size := fun c hc => by have := (hx.big c hc).2; omega
  have ho' : OwnF W' q k0 Fp := ho.keep (fun c hc => kp c (hlt c (by simp [hc])) (fun e => hpFp (e ▸ hc)))
  obtain ⟨b', hb', hv⟩ : ∃ b', (0 < k0.len → q = some ⟨b', 0, none⟩) ∧ Vis (PendM l) W' p (numH l h0) (numF l k0) (kidsP b' 0 k0.len) (numF l k0).toList Fp := by
    rcases ho' with ⟨h0', rfl⟩ | ⟨b', F', rfl, rfl, hrow', hp⟩
    · refine ⟨0, fun h1 => by omega, q, cap, by rw [numF_len]; exact hd, .inl ⟨by rw [numF_len]; exact h0', by rw [h0']; rfl, ?_, rfl⟩⟩
      exact List.length_eq_zero_iff.1 (by rw [Fo.length_toList, numF_len]; exact h0')
    · exact ⟨b', fun _ => rfl, _, cap, by rw [numF_len]; exact hd, .inr ⟨b', F', rfl, rfl, hrow', hp.pendM l g3 hz⟩⟩
  have hbs := hx.base
  have hl2 := (Array.getElem?_eq_some_iff.1 hx.res).1
  have i1 : NumI w l b0 bm mo N h f (k - 1) (kidsP b' 0 k0.len ++ st) ((numF l k0).toList ++ ts) (A ++ Fp ++ B) W' := by
    refine ⟨?_, by have := hx.small; omega, ?_, hx.nd, hx.big, ?_, (kp _ hl2 (by omega)).trans hx.res, hx.mb.kept hg (fun e => hpbm (Option.some.inj e).symm), hx.mi.kept hg (fun e => hpmo (Option.some.inj e).symm), hx.below.grown hg hx.below.size (fun r e => by have := Option.some.inj e; omega), hbs, Nat.le_trans hroom hg.size⟩
    · rw [flatL_append, List.length_append, flatL_toList, ← e2]; omega
    · exact hgo W' _ _ _ hcs (fun c hc hne => kp c (hlt c (by rcases List.mem_cons.1 hc with h1 | h1; exact h1 ▸ (by simp); rcases List.mem_append.1 h1 with h2 | h2 <;> simp [h2])) hne) (fun _ => hrW) (by rw [e1, e2]; exact hv)
    · by_cases hpb : p.1 = b0
      · rw [← hpb]; exact hrW
      · exact hx.row.same (kp b0 hx.row.lt (fun e => hpb e.symm))
  refine ⟨k - 1, q, b', 0, k0.len, cap, D, by omega, hd.c3, hb', hh.lc, ?_, ⟨_, _, i1⟩, Tch.grown hg (fun r e => by have := Option.some.inj e; left; omega), .inl hbig.2⟩
  have h2 : (kidsP b' 0 k0.len ++ st).length ≤ k - 1 := by rw [i1.pt.stlen, i1.n]; exact flatL_len _
  have h4 := i1.small
  rw [List.length_append, length_kidsP] at h2
  omega

theorem NumI.fin {w : World} {l : List Int} {b0 bm mo N : Nat} {h : Hd} {f : Fo} {k : Nat} {ts : List (Hd × Fo)} {F : List Nat} {W : World} (hx : NumI w l b0 bm mo N h f k [] ts F W) : ∃ q cap, HdAt W b0 0 h q f.len cap ∧ OwnF W q f F := by
  have hp := hx.pt
  have hts : ts = [] := List.length_eq_zero_iff.1 hp.stlen.symm
  subst hts
  obtain ⟨s1, s2, t1, t2, G1, G2, f1, f2, f3, hr, hc⟩ := hp
  obtain ⟨rfl, rfl⟩ := List.append_eq_nil_iff.1 f1.symm
  obtain ⟨rfl, rfl⟩ := List.append_eq_nil_iff.1 f2.symm
  obtain ⟨_, _, rfl⟩ := hr
  rcases hc with ⟨x1, _⟩ | ⟨q', cap', hhd, hk⟩
  · cases x1
  refine ⟨q', cap', hhd, ?_⟩
  rcases hk with ⟨x1, _, _, x4⟩ | ⟨b', F', x1, x2, x3, hk⟩
  · exact .inl ⟨x1, by rw [f3, x4]; rfl⟩
  · exact .inr ⟨b', F', x1, by rw [f3, x2]; simp, x3, hk.any⟩

theorem NumI.start {w W : World} {l : List Int} {b0 bm mo N : Nat} {h : Hd} {k0 : Fo} {q : Option Addr} {cap : Nat} {F : List Nat} (hg : gd l (.cons h k0 .nil)) (hsz : 1 + k0.size ≤ 1099511627776) (hh : HdAt W b0 0 h q k0.len cap) (ho : OwnF W q k0 F) (hn : (b0 :: F).Nodup)
    (hF : ∀ c ∈ b0 :: F, w.heap.size + 2 ≤ c ∧ c < N) (hrow : RowB W b0) (hres : W.heap[w.heap.size + 1]? = some (.cells #[.int .u8 0, .string ⟨#[]⟩, .int .i64 0, .slice none 0 0] 25 (0, 0))) (hmb : Boxed W bm 60 (.map (some mo))) (hmi : NmIs W mo l.length l)
    (hb : Below w.heap.size w W) (hN : w.heap.size + 2 ≤ bm ∧ bm < N ∧ mo < N) (hW : N ≤ W.heap.size) :
    NumI w l b0 bm mo N (numH l h) (numF l k0) (1 + k0.size) [(b0, 0)] [(numH l h, numF l k0)] F W :=
  ⟨by rw [length_one, numF_size], hsz, ⟨[(b0, 0)], [], [(numH l h, numF l k0)], [], F, [], rfl, rfl, by simp, ⟨rfl, rfl, rfl⟩, .inl ⟨rfl, rfl, h, k0, q, cap, rfl, rfl, by omega, hg, hh, ho⟩⟩, hn, hF, hrow, hres, hmb, hmi, hb, hN, hW⟩
end Go.Proofs.Ytmjijmkdeblefaa

/- Vars; Number. -/
namespace Go.Proofs.Ytmjijmkdeblefaa
open Go.RowKit Go.Shelf LM
set_option linter.unusedVariables false
attribute [local go_sem] Oper.semAt_some

/-- The variables of a tree. -/
def varsT (T : Hd × Fo) : List Int := varsL (flatL [(T.1, T.2)])
theorem varsT_gd {T : Hd × Fo} (h : T.1.ok) (k : T.2.ok) : gd (varsT T) (.cons T.1 T.2 .nil) := by
  have hok : ∀ f : Fo, f.ok → ∀ x ∈ f.flat, x.1.ok := by
    intro f
    induction f with
    | nil => intro _ x hx; cases hx
    | cons h k r ihk ihr =>
      intro hf x hx
      simp only [Fo.flat, List.mem_cons, List.mem_append] at hx
      rcases hx with rfl | hx | hx
      · exact hf.1
      · exact ihk hf.2.1 x hx
      · exact ihr hf.2.2 x hx
  intro x hx
  refine ⟨hok (.cons T.1 T.2 .nil) ⟨h, k, trivial⟩ x hx, fun hv => ?_⟩
  unfold varsT
  rw [flatL_one]
  exact varsL_mem _ x hx hv

set_option maxRecDepth 100000 in
theorem Vars_no (h : Hd) (k : Fo) (q : Option Addr) (cap : Nat) (w : World) (hh : h.ok) (hs : SlF w q cap k) (hok : k.ok) (hsz : 1 + k.size ≤ 1099511627776) (hr : riB h k = false) :
    Calls Try.prog 13 #[.agg #[.int .u8 h.op, .string h.name, .int .i64 h.n, .slice q k.len cap]] w fun e w' => e = .returned (.slice none 0 0) ∧ Below w.heap.size w w' := by
  have HR : Hid (∀ w', Below w.heap.size w w' → Calls Try.prog 54 #[.agg #[.int .u8 h.op, .string h.name, .int .i64 h.n, .slice q k.len cap]] w' fun e w'' => e = .returned (.bool false) ∧ Below w'.heap.size w' w'') :=
    Lib.hid fun w' hb => by rw [← hr]; exact right_any h k q cap w' hh (hs.below hb) hok hsz
  clear hs hr hh hok hsz
  go_enter Try.func13, Try.ntmps13
  go_wp2_with fail
  refine (HR.out _ (below_box _ _)).mono ?_
  rintro e w1 ⟨rfl, hb1⟩
  have HB1 := Lib.hid (below_then (below_box _ _) hb1)
  clear hb1
  go_wp2
  go_ret
  exact ⟨rfl, HB1.out⟩

set_option maxRecDepth 100000 in
theorem Vars_yes (h : Hd) (k : Fo) (q : Option Addr) (cap : Nat) (w : World) (hh : h.ok) (hs : SlF w q cap k) (hok : k.ok) (hsz : 1 + k.size ≤ 1099511627776) (hr : riB h k = true) :
    Calls Try.prog 13 #[.agg #[.int .u8 h.op, .string h.name, .int .i64 h.n, .slice q k.len cap]] w (IntsPost w (varsT (canT h k))) := by
  have HR : Hid (∀ w', Below w.heap.size w w' → Calls Try.prog 54 #[.agg #[.int .u8 h.op, .string h.name, .int .i64 h.n, .slice q k.len cap]] w' fun e w'' => e = .returned (.bool true) ∧ Below w'.heap.size w' w'') :=
    Lib.hid fun w' hb => by rw [← hr]; exact right_any h k q cap w' hh (hs.below hb) hok hsz
  have hr' : rightB h k 1 = true ∨ rightB h k 2 = true := by unfold riB at hr; simpa using hr
  obtain ⟨hro, s, hsh⟩ := can_of hr'
  have HC := Lib.hid fun w' (hb : Below w.heap.size w w') => canon_any h k q cap w' s hh (hs.below hb) hok hsz hro hsh
  have hT := canT_ok hh hok
  have hz := canT_size h k
  have HV := Lib.hid fun q1 c1 w' (hs1 : SlF w' q1 c1 (canT h k).2) => vars_any (canT h k).1 (canT h k).2 q1 c1 w' hT.1 hs1 hT.2 (by omega)
  have HX := Lib.hid (World.alloc_heap_new w (.cells #[.int .u8 h.op, .string h.name, .int .i64 h.n, .slice q k.len cap] 25))
  unfold varsT
  clear hs hr hr' hro hsh hh hok hsz hT hz
  generalize canT h k = T at *
  generalize varsL (flatL [(T.1, T.2)]) = l at *
  generalize k.len = L at *
  go_enter Try.func13, Try.ntmps13
  go_wp2_with fail
  refine (HR.out _ (below_box _ _)).mono ?_
  rintro e w1 ⟨rfl, hb1⟩
  obtain ⟨x0, x1, x2, x3, _⟩ := row4 ((hb1.block _ (by simp)).trans HX.out)
  have HB1 := Lib.hid (below_then (below_box _ _) hb1)
  clear hb1
  go_wp2_with fail
  refine (HC.out _ HB1.out).mono ?_
  rintro e w2 ⟨q1, c1, F1, rfl, h1, h2, ho, hn, hF, hb2⟩
  have HB2 := Lib.hid (below_then HB1.out hb2)
  have HV2 := Lib.hid (HV.out q1 c1 w2 (ho.slF h1 h2))
  clear ho hn hF hb2
  go_wp2_with fail
  refine HV2.out.mono ?_
  rintro e w3 ⟨v, rfl, hown, hb3⟩
  have HB3 := Lib.hid (below_then HB2.out hb3)
  have HO := Lib.hid (own_base hown HB2.out.size)
  clear hown hb3
  go_wp2
  go_ret
  exact ⟨v, rfl, HO.out, HB3.out⟩

set_option maxRecDepth 100000 in
theorem Number_no (h : Hd) (k : Fo) (q : Option Addr) (cap : Nat) (w : World) (hh : h.ok) (hs : SlF w q cap k) (hok : k.ok) (hsz : 1 + k.size ≤ 1099511627776) (hr : riB h k = false) :
    Calls Try.prog 12 #[.agg #[.int .u8 h.op, .string h.name, .int .i64 h.n, .slice q k.len cap]] w fun e w' => e = .returned (.agg #[.int .u8 0, .string ⟨#[]⟩, .int .i64 0, .slice none 0 0]) ∧ Below w.heap.size w w' := by
  have HR : Hid (∀ w', Below w.heap.size w w' → Calls Try.prog 54 #[.agg #[.int .u8 h.op, .string h.name, .int .i64 h.n, .slice q k.len cap]] w' fun e w'' => e = .returned (.bool false) ∧ Below w'.heap.size w' w'') :=
    Lib.hid fun w' hb => by rw [← hr]; exact right_any h k q cap w' hh (hs.below hb) hok hsz
  clear hs hr hh hok hsz
  go_enter Try.func12, Try.ntmps12
  go_wp2_with fail
  refine (HR.out _ ((below_box _ _).alloc (by simp) _)).mono ?_
  rintro e w1 ⟨rfl, hb1⟩
  obtain ⟨hbw, hbox, hres⟩ := two_boxes hb1
  obtain ⟨y0, y1, y2, y3, z0, z1, z2, z3⟩ := row4 hres
  have HBW := Lib.hid hbw
  have HRES := Lib.hid hres
  clear hb1 hbox hres hbw
  go_wp2
  have hg := set4_grown w1 (w.heap.size + 1) (.int .u8 0) (.string ⟨#[]⟩) (.int .i64 0) (.slice none 0 0)
  exact bodyPost_ret (v := .agg #[.int .u8 0, .string ⟨#[]⟩, .int .i64 0, .slice none 0 0]) (by simp [results, Try.results12, go_sem, y0, y1, y2, y3]) rfl ⟨rfl, HBW.out.grown hg HBW.out.size (fun r e => by have := Option.some.inj e; omega)⟩

/-- While the map is filled. -/
structure NbI (w : World) (l : List Int) (T : Hd × Fo) (L : Nat) (q1 : Option Addr) (c1 : Nat) (F1 : List Nat) (b0 base : Nat) (v : Value) (j : Nat) (W : World) : Prop where
  le : j ≤ l.length
  mi : NmIs W (b0 + 1) (l.take j).length (l.take j)
  out : W.heap[b0]? = some (.cells #[.int .u8 T.1.op, .string T.1.name, .int .i64 T.1.n, .slice q1 L c1] 25 (0, 0))
  own : OwnF W q1 T.2 F1
  flt : ∀ c ∈ F1, w.heap.size + 2 ≤ c ∧ c < b0
  res : W.heap[w.heap.size + 1]? = some (.cells #[.int .u8 0, .string ⟨#[]⟩, .int .i64 0, .slice none 0 0] 25 (0, 0))
  mb : Boxed W (b0 + 1 + 1) 60 (.map (some (b0 + 1)))
  ints : W.ownsRow base 3 1 v l.length (l.map (Value.int .i64))
  below : Below w.heap.size w W
  room : w.heap.size + 2 ≤ b0 ∧ b0 + 3 ≤ base ∧ base ≤ W.heap.size
theorem NbI.go {w : World} {l : List Int} {T : Hd × Fo} {L : Nat} {q1 : Option Addr} {c1 : Nat} {F1 : List Nat} {b0 base : Nat} {v : Value} {j : Nat} {W W' : World} (h : NbI w l T L q1 c1 F1 b0 base v j W) (hj : j < l.length) (hg : W.grownBy W' (some (b0 + 1))) (hm : NmIs W' (b0 + 1) (l.take j ++ [l[j]]).length (l.take j ++ [l[j]])) :
    NbI w l T L q1 c1 F1 b0 base v (j + 1) W' := by
  obtain ⟨r1, r2, r3⟩ := h.room
  have l1 := (Array.getElem?_eq_some_iff.1 h.out).1
  have l2 := (Array.getElem?_eq_some_iff.1 h.res).1
  have kp : ∀ c, c < W.heap.size → c ≠ b0 + 1 → W'.heap[c]? = W.heap[c]? := fun c a b => hg.block c a (fun e => b (Option.some.inj e))
  refine ⟨hj, by rw [List.take_succ_eq_append_getElem hj]; exact hm, (kp _ l1 (by omega)).trans h.out, h.own.keep (fun c hc => kp c (by have := (h.flt c hc).2; omega) (by have := (h.flt c hc).2; omega)), h.flt, (kp _ l2 (by omega)).trans h.res, h.mb.kept hg (fun e => by have := Option.some.inj e; omega), h.ints.kept hg ?_, h.below.grown hg h.below.size (fun r e => by have := Option.some.inj e; omega), r1, r2, Nat.le_trans r3 hg.size⟩
  cases hv : v.ownBlock with
  | none => exact .inl rfl
  | some g => exact .inr fun e => by have := (h.ints.lt g hv).1; have := Option.some.inj e; omega

theorem HdAt.setN {W : World} {p : Pl} {h : Hd} {q : Option Addr} {len cap : Nat} (hh : HdAt W p.1 p.2 h q len cap) (hr : RowB W p.1) (n : Int) (m : Nat) :
    W.grownBy ((W.drewN m).setCell ⟨p.1, p.2 + 2, none⟩ (.int .i64 n)) (some p.1) ∧ (∀ i, i < p.2 ∨ p.2 + 4 ≤ i → ((W.drewN m).setCell ⟨p.1, p.2 + 2, none⟩ (.int .i64 n)).cell? ⟨p.1, i, none⟩ = W.cell? ⟨p.1, i, none⟩) ∧ RowB ((W.drewN m).setCell ⟨p.1, p.2 + 2, none⟩ (.int .i64 n)) p.1 ∧ HdAt ((W.drewN m).setCell ⟨p.1, p.2 + 2, none⟩ (.int .i64 n)) p.1 p.2 ⟨h.op, h.name, n⟩ q len cap := by
  have hd : ∀ (a : Addr), (W.drewN m).cell? a = W.cell? a := fun a => by
    have := below_drewN (Below.refl (W.heap.size) W) m
    simp [World.cell?]
  have hrm : RowB (W.drewN m) p.1 := hr.same ((below_drewN (Below.refl _ W) m).block _ hr.lt)
  obtain ⟨cs, hc⟩ := hrm
  have hrow := row_set hc (p.2 + 2) (.int .i64 n)
  have hlt : p.2 + 2 < cs.size := by
    have h2 := hh.c2
    rw [← hd] at h2
    simp only [World.cell?, hc] at h2
    have h3 : cs[p.2 + 2]? = some (Value.int .i64 h.n) := by simpa using h2
    exact (Array.getElem?_eq_some_iff.1 h3).1
  have hcell : ∀ i, ((W.drewN m).setCell ⟨p.1, p.2 + 2, none⟩ (.int .i64 n)).cell? ⟨p.1, i, none⟩ = if i = p.2 + 2 then some (.int .i64 n) else W.cell? ⟨p.1, i, none⟩ := fun i => by
    rw [← hd]
    simp only [World.cell?, hrow, hc]
    by_cases hi : i = p.2 + 2
    · subst hi; simp [hlt]
    · rw [if_neg hi]
      have : p.2 + 2 ≠ i := fun e => hi e.symm
      simp [this]
  refine ⟨?_, fun i hi => by rw [hcell, if_neg (by omega)], ⟨_, hrow⟩, ⟨by rw [hcell, if_neg (by omega)]; exact hh.c0, by rw [hcell, if_neg (by omega)]; exact hh.c1, by rw [hcell, if_pos rfl], by rw [hcell, if_neg (by omega)]; exact hh.c3, hh.lc, hh.cm⟩⟩
  have hg := grown_set (W.drewN m) p.1 (p.2 + 2) (.int .i64 n)
  exact grown_of (w2 := W) (m := m) (Below.refl _ _) hg

set_option maxRecDepth 100000 in
set_option maxHeartbeats 4000000 in
theorem Number_yes (h : Hd) (k : Fo) (q : Option Addr) (cap : Nat) (w : World) (hh : h.ok) (hs : SlF w q cap k) (hok : k.ok) (hsz : 1 + k.size ≤ 1099511627776) (hr : riB h k = true) :
    Calls Try.prog 12 #[.agg #[.int .u8 h.op, .string h.name, .int .i64 h.n, .slice q k.len cap]] w (CopPost w (numH (varsT (canT h k)) (canT h k).1) (numF (varsT (canT h k)) (canT h k).2)) := by
  refine (callsIn_wide (n := 9)).1 ?_
  have HR : Hid (∀ w', Below w.heap.size w w' → Calls Try.prog 54 #[.agg #[.int .u8 h.op, .string h.name, .int .i64 h.n, .slice q k.len cap]] w' fun e w'' => e = .returned (.bool true) ∧ Below w'.heap.size w' w'') :=
    Lib.hid fun w' hb => by rw [← hr]; exact right_any h k q cap w' hh (hs.below hb) hok hsz
  have hr' : rightB h k 1 = true ∨ rightB h k 2 = true := by unfold riB at hr; simpa using hr
  obtain ⟨hro, s, hsh⟩ := can_of hr'
  have HC := Lib.hid fun w' (hb : Below w.heap.size w w') => canon_any h k q cap w' s hh (hs.below hb) hok hsz hro hsh
  have hT := canT_ok hh hok
  have hz := canT_size h k
  have HV := Lib.hid fun q1 c1 w' (hs1 : SlF w' q1 c1 (canT h k).2) => vars_any (canT h k).1 (canT h k).2 q1 c1 w' hT.1 hs1 hT.2 (by omega)
  have HG : Hid (gd (varsT (canT h k)) (.cons (canT h k).1 (canT h k).2 .nil)) := Lib.hid (varsT_gd hT.1 hT.2)
  have HZ : Hid (1 + (canT h k).2.size ≤ 1099511627776) := Lib.hid (by omega)
  have hll : (varsT (canT h k)).length ≤ 1 + (canT h k).2.size := by unfold varsT; rw [← length_one (canT h k).1]; exact varsL_len _
  have HND : Hid (varsT (canT h k)).Nodup := Lib.hid (varsL_nodup _)
  have HINT : Hid (∀ x ∈ varsT (canT h k), (Lit.int .i64 x).wf = true) := Lib.hid fun x hx => by
    have key : ∀ (l : List (Hd × Fo)), (∀ y ∈ l, y.1.ok) → ∀ x ∈ varsL l, (Lit.int .i64 x).wf = true := by
      intro l
      refine snoc_ind (P := fun l => (∀ y ∈ l, y.1.ok) → ∀ x ∈ varsL l, (Lit.int .i64 x).wf = true) (fun _ x hx => by cases hx) (fun m q ih hy x hx => ?_) l
      rw [varsL_snoc] at hx
      split at hx
      · rcases List.mem_append.1 hx with h1 | h1
        · exact ih (fun y h => hy y (by simp [h])) x h1
        · simp at h1
          subst h1
          have := (hy q (by simp)).n0
          have := (hy q (by simp)).n1
          simp [Lit.wf, IntKind.min, IntKind.max, IntKind.signed, IntKind.bits]; omega
      · exact ih (fun y h => hy y (by simp [h])) x hx
    refine key _ (fun y hy => ?_) x hx
    rw [flatL_one] at hy
    exact (HG.out y hy).1
  have hll2 : (varsT (canT h k)).length ≤ 1099511627776 := by omega
  have HP := Lib.hid parts_any
  have hmm := @run_makeMap Try.prog
  clear hs hr hr' hro hsh hh hok hsz hT hz hll
  have hvd : varsT (canT h k) = varsL (flatL [((canT h k).1, (canT h k).2)]) := rfl
  rw [← hvd] at HV
  clear hvd
  generalize varsT (canT h k) = l at *
  generalize canT h k = T at *
  have HADD := Lib.hid (two_boxes (Below.refl ((w.alloc (.cells #[.int .u8 h.op, .string h.name, .int .i64 h.n, .slice q k.len cap] 25)).alloc (.cells #[.int .u8 0, .string ⟨#[]⟩, .int .i64 0, .slice none 0 0] 25)).heap.size _))
  generalize k.len = Lk at *
  refine callsIn_of_wp_marks Try.func12 rfl trivial ?_ rfl
  simp only [Try.ntmps12, List.size_toArray, List.length_cons, List.length_nil, Nat.reduceAdd, Nat.reduceSub, Array.replicate_succ, Array.replicate_zero, List.push_toArray, List.append_toArray, List.nil_append, List.cons_append]
  gi_wp2_with fail
  refine ⟨trivial, ?_⟩
  refine (callsIn_wide.2 (HR.out _ HADD.out.1)).mono ?_
  rintro e w1 ⟨rfl, hb1⟩
  obtain ⟨hbw, hbx, hres⟩ := two_boxes hb1
  obtain ⟨x0, x1, x2, x3, _⟩ := row4 hbx
  have HBW := Lib.hid hbw
  have HRES := Lib.hid hres
  have hz1 : w.heap.size + 2 ≤ w1.heap.size := by have := hb1.size; simpa using this
  clear hb1 hbw hbx hres
  gi_wp2_with fail
  refine ⟨trivial, ?_⟩
  refine (callsIn_wide.2 (HC.out _ HBW.out)).mono ?_
  rintro e w2 ⟨q1, c1, F1, rfl, hl1, hm1, hown1, hnd1, hF1, hb2⟩
  have hz2 := hb2.size
  have hres2 := (hb2.block _ (by omega)).trans HRES.out
  have HRES2 := Lib.hid hres2
  have HB2 := Lib.hid (below_then HBW.out hb2)
  have HO1 := Lib.hid hown1
  have HN1 := Lib.hid hnd1
  have HF1 : Hid (∀ c ∈ F1, w.heap.size + 2 ≤ c ∧ c < w2.heap.size) := Lib.hid fun c hc => ⟨by have := (hF1 c hc).1; omega, (hF1 c hc).2⟩
  have HTL := Lib.hid (And.intro hl1 hm1)
  have HSL := Lib.hid (hown1.slF hl1 hm1)
  have hz02 : w.heap.size + 2 ≤ w2.heap.size := by omega
  clear hb2 hres2 hown1 hnd1 hF1 x0 x1 x2 x3
  generalize hTL : T.2.len = LT at *
  have HTLE := Lib.hid hTL
  clear hTL
  -- the three boxes behind canon
  obtain ⟨w3, hw3⟩ : ∃ w3, w3 = ((w2.alloc (.cells #[.int .u8 T.1.op, .string T.1.name, .int .i64 T.1.n, .slice q1 LT c1] 25)).alloc (.map #[] 0)).alloc (.cells #[.map (some (w2.heap.size + 1))] 60) := ⟨_, rfl⟩
  have h3a := World.alloc_heap_new w2 (.cells #[.int .u8 T.1.op, .string T.1.name, .int .i64 T.1.n, .slice q1 LT c1] 25)
  have h3b := NmIs.start (w2.alloc (.cells #[.int .u8 T.1.op, .string T.1.name, .int .i64 T.1.n, .slice q1 LT c1] 25))
  have h3c := Boxed.new ((w2.alloc (.cells #[.int .u8 T.1.op, .string T.1.name, .int .i64 T.1.n, .slice q1 LT c1] 25)).alloc (.map #[] 0)) 60 (.map (some (w2.heap.size + 1)))
  simp only [World.size_alloc] at h3b h3c
  have hz3 : w3.heap.size = w2.heap.size + 3 := by rw [hw3]; simp
  have hb3 : Below w2.heap.size w2 w3 := by rw [hw3]; exact ((below_box _ _).alloc (by simp) _).alloc (by simp; omega) _
  have h3out : w3.heap[w2.heap.size]? = some (.cells #[.int .u8 T.1.op, .string T.1.name, .int .i64 T.1.n, .slice q1 LT c1] 25 (0, 0)) := by
    rw [hw3]; exact ((below_box _ _).block _ (by simp; omega)).trans (((below_box _ _).block _ (by simp)).trans h3a)
  have h3mi : NmIs w3 (w2.heap.size + 1) 0 [] := by rw [hw3]; exact h3b.below (below_box _ _)
  have h3mb : Boxed w3 (w2.heap.size + 1 + 1) 60 (.map (some (w2.heap.size + 1))) := by rw [hw3]; exact h3c
  obtain ⟨y0, y1, y2, y3, _⟩ := row4 h3out
  have HW3 := Lib.hid hw3
  have H3O := Lib.hid h3out
  have H3I := Lib.hid h3mi
  have H3B := Lib.hid h3mb
  have HB3 := Lib.hid hb3
  have HZ3 := Lib.hid hz3
  clear h3a h3b h3c h3out h3mi h3mb hb3 hz3 hw3
  gi_wp2_with fail
  refine ⟨trivial, ?_⟩
  rw [← HW3.out]
  refine (callsIn_wide.2 (HV.out q1 c1 w3 (HSL.out.below HB3.out))).mono ?_
  rintro e w4 ⟨v, rfl, hown4, hb4⟩
  obtain ⟨a, cp, rfl⟩ := own_value hown4
  have hz4 := hb4.size
  have hnb : NbI w l T LT q1 c1 F1 w2.heap.size w3.heap.size (.slice a l.length cp) 0 w4 :=
    ⟨Nat.zero_le _, H3I.out.below hb4, (hb4.block _ (by have := HZ3.out; omega)).trans H3O.out, (HO1.out.keep fun c hc => HB3.out.block c (HF1.out c hc).2).keep (fun c hc => hb4.block c (by have := (HF1.out c hc).2; have := HZ3.out; omega)), HF1.out,
      (hb4.block _ (by have := HZ3.out; omega)).trans ((HB3.out.block _ (by omega)).trans HRES2.out), boxed_below H3B.out hb4, hown4, HB2.out.trans ((HB3.out.trans (hb4.mono HB3.out.size)).mono HB2.out.size), hz02, by have := HZ3.out; omega, hz4⟩
  have HNB := Lib.hid hnb
  clear hown4 hb4 hnb y0 y1 y2 y3
  generalize hLL : l.length = LL at *
  have HLL := Lib.hid hLL
  clear hLL
  gi_wp2
  gi_loopw [18] (fun i wx => ∃ j : Nat, i = .int .i64 j ∧ NbI w l T LT q1 c1 F1 w2.heap.size w3.heap.size (.slice a LL cp) j wx) (fun i _ => LL - (intOf i).toNat)
  case atStart => exact ⟨0, rfl, HNB.out⟩
  case round =>
    obtain ⟨j, rfl, hI⟩ := hrel
    have hjl := hI.le
    rw [HLL.out] at hjl
    have HI := Lib.hid hI
    by_cases hj : j < LL
    · have hjl2 : j < l.length := by rw [HLL.out]; exact hj
      have hown := hI.ints
      rw [HLL.out] at hown
      obtain ⟨g, cg, cur, e, _, _, _, _, hcell⟩ := own_some hown (by omega)
      cases e
      have hc1 := hcell j (.int .i64 l[j]) (by simp [hjl2])
      simp only [Nat.zero_add] at hc1
      have hmc := hI.mb.cell
      have hwf := HINT.out _ (List.getElem_mem hjl2)
      have hnin : l[j] ∉ l.take j := fun hc => by
        have hn := HND.out
        rw [← List.take_append_drop j l, List.nodup_append] at hn
        exact hn.2.2 _ hc _ (by rw [List.drop_eq_getElem_cons hjl2]; exact List.mem_cons_self) rfl
      obtain ⟨w5, hup, hm5, hg5⟩ := hI.mi.store hwf (by simp; omega) hnin
      have htl : ((l.take j).length : Nat) = j := by simp; omega
      rw [htl] at hup
      have HG5 := Lib.hid (hI.go hjl2 hg5 hm5)
      have hj0 : (0 : Int) ≤ (j : Int) := by omega
      have hjL : (j : Int) < (LL : Int) := by omega
      clear hI hown hcell hm5 hg5 hnin hwf htl
      generalize l[j] = n1 at *
      gi_wp2
      exact ⟨⟨j + 1, by go_num, HG5.out⟩, by simp [intOf]; omega⟩
    · have hje : j = LL := by omega
      subst hje
      have hnl : ¬ ((j : Int) < (j : Int)) := by omega
      obtain ⟨r1, r2, r3⟩ := hI.room
      have hmi : NmIs wr (w2.heap.size + 1) l.length l := by have := hI.mi; rwa [← HLL.out, List.take_length] at this
      obtain ⟨y0, y1, y2, y3, _⟩ := row4 hI.out
      have hb5 := below_box wr (.cells #[.pointer (some ⟨w2.heap.size, 0, none⟩)] 64)
      have hst : NumI w l w2.heap.size (w2.heap.size + 1 + 1) (w2.heap.size + 1) (wr.heap.size + 1) (numH l T.1) (numF l T.2) (1 + T.2.size) [(w2.heap.size, 0)] [(numH l T.1, numF l T.2)] F1 (wr.alloc (.cells #[.pointer (some ⟨w2.heap.size, 0, none⟩)] 64)) := by
        have hob := (hb5.block _ (Array.getElem?_eq_some_iff.1 hI.out).1).trans hI.out
        rw [← HTLE.out] at hob
        obtain ⟨u0, u1, u2, u3, _⟩ := row4 hob
        refine NumI.start HG.out HZ.out ⟨u0, u1, u2, u3, by have := HTL.out.1; rwa [HTLE.out], HTL.out.2⟩ (hI.own.keep fun c hc => hb5.block c (by have := (hI.flt c hc).2; omega)) (List.nodup_cons.2 ⟨fun hc => by have := (hI.flt _ hc).2; omega, HN1.out⟩) (fun c hc => ?_) ⟨_, hob⟩ ((hb5.block _ (Array.getElem?_eq_some_iff.1 hI.res).1).trans hI.res) (boxed_below hI.mb hb5) (hmi.below hb5) (hI.below.alloc hI.below.size _) ⟨by omega, by omega, by omega⟩ (by simp)
        rcases List.mem_cons.1 hc with h1 | h1
        · exact ⟨by omega, by omega⟩
        · have := hI.flt c h1; exact ⟨by omega, by omega⟩
      have HST := Lib.hid hst
      have HKC := Lib.hid (box_cell wr (.pointer (some ⟨w2.heap.size, 0, none⟩)))
      clear hI hst hmi hb5 HNB HADD
      gi_wp2_with (refine ⟨trivial, ?_⟩; gi_at_call 57; refine (callsIn_wide.2 (HP.out _ _)).mono ?_; rintro e w' ⟨rfl, rfl⟩)
      refine range_parts rfl (by omega) (Bn := wr.heap.size) rfl trivial (w2.heap.size, 0) ?c1 rfl
        (fun k st D W => ∃ ts F, NumI w l w2.heap.size (w2.heap.size + 1 + 1) (w2.heap.size + 1) (wr.heap.size + 1) (numH l T.1) (numF l T.2) k st ts F W) (fun _ _ _ => False) ?hI (fun _ _ _ _ _ hx _ _ => hx.elim) (1 + T.2.size) ?c2
        ?a1 ?assign ?body ?done ?stop
      case assign =>
        intro l p W K hK
        gi_wp2
        exact hK
      case c1 => exact HKC.out
      case hI =>
        rintro k st D X Y row ⟨ts, F, hx⟩ hg hr
        exact ⟨ts, F, hx.kept hg (fun r e => by have := (hr r e).1; simpa using this)⟩
      case c2 => exact ⟨_, _, HST.out⟩
      case stop =>
        rintro K c D W _ _ hx _
        exact hx.elim
      case body =>
        rintro l0 k1 p st D W hW hD ⟨ts, F, hx⟩
        obtain ⟨h0, q0, len0, cap0, hd, hok0, hvm, hrow, hpN, hpw, hpbm, hpmo, hgo⟩ := hx.step (D := D)
        have c0 := hd.c0
        have c2 := hd.c2
        have hpl := hrow.lt
        have hrf := hrow.frozen (p.2 + 2)
        have h00 := hok0.op0
        have h01 := hok0.op1
        have hwf : (Lit.int .i64 h0.n).wf = true := by have := hok0.n0; have := hok0.n1; simp [Lit.wf, IntKind.min, IntKind.max, IntKind.signed, IntKind.bits]; omega
        have HV0 := Lib.hid fun w => isVar_any h0.op w h00 h01
        have hmc := hx.mb.cell
        cases hv : isVarB h0.op
        · rw [hv] at HV0
          have hnh : numH l h0 = h0 := by unfold numH; rw [if_neg (by simp [hv])]
          have HF0 := Lib.hid (hgo W ⟨rfl, rfl, rfl, Nat.le_refl _, fun _ _ _ => rfl⟩ (fun _ _ => rfl) hrow (by rw [hnh]; exact hd))
          clear hgo hd hx hrow hvm hnh hwf
          generalize h0.op = o1 at *
          gi_wp2_with (refine ⟨trivial, ?_⟩; gi_at_call 58; refine (CallsIn.inRound l0 (callsIn_wide.2 (HV0.out _))).mono ?_; rintro e w' ⟨rfl, rfl⟩)
          simp only [World.size_alloc]
          exact HF0.out
        · rw [hv] at HV0
          have hmem := hvm hv
          have hlk : (Instr.lookup 60 (.map (some (w2.heap.size + 1))) (.int .i64 h0.n) false).run Try.prog W.drew = .ok (.int .i64 (numOf l h0.n)) W.drew := (hx.mi.drewN 1).look hwf
          have hno : numOf l h0.n = atL l h0.n := by unfold numOf atL; rw [if_pos hmem, if_pos hmem]
          have hnh : numH l h0 = ⟨h0.op, h0.name, numOf l h0.n⟩ := by unfold numH; rw [if_pos hv, hno]
          obtain ⟨u1, u2, u3, u4⟩ := hd.setN hrow (numOf l h0.n) 1
          have HF0 := Lib.hid (hgo (W.drew.setCell ⟨p.1, p.2 + 2, none⟩ (.int .i64 (numOf l h0.n))) u1 u2 u3 (by rw [hnh]; exact u4))
          clear hgo hd hx hrow hvm hnh hwf hno hmem u1 u2 u3 u4
          generalize numOf l h0.n = n2 at *
          gi_wp2_with (refine ⟨trivial, ?_⟩; gi_at_call 58; refine (CallsIn.inRound l0 (callsIn_wide.2 (HV0.out _))).mono ?_; rintro e w' ⟨rfl, rfl⟩)
          refine wpIn_mono (Q := fun e _ W' => e = Exit.normal ∧ W' = W.drew.setCell ⟨p.1, p.2 + 2, none⟩ (.int .i64 n2)) ?once1 ?once2
          case once1 =>
            refine region_round rfl (by kernel_rfl) (noDefer_spec (by kernel_rfl)) ?_
            refine wpAnyIn_take (i := 0) (v := _) rfl rfl (by kernel_rfl) (by kernel_rfl) (by kernel_rfl) (fun _ _ _ h => nomatch h.1) ⟨Or.inl ⟨by rfl, fun w => by go_simp; with_reducible rfl⟩, fun _ => rfl⟩ ?_
            refine wpAnyIn_take (i := 2) (v := _) rfl rfl (by kernel_rfl) (by kernel_rfl) (by kernel_rfl) (fun _ _ _ h => nomatch h.1) ⟨Or.inl ⟨by rfl, fun w => by go_simp; with_reducible rfl⟩, fun _ => rfl⟩ ?_
            refine wpAnyIn_take (i := 3) (v := _) rfl rfl (by kernel_rfl) (by kernel_rfl) (by kernel_rfl) (fun _ _ _ h => nomatch h.1) ⟨Or.inl ⟨by rfl, fun w => by go_simp; with_reducible rfl⟩, fun _ => rfl⟩ ?_
            refine wpAnyIn_take (i := 4) (v := _) rfl rfl (by kernel_rfl) (by kernel_rfl) (by kernel_rfl) (fun _ _ _ h => nomatch h.1) ⟨Or.inl ⟨by rfl, fun w => by go_simp; with_reducible rfl⟩, fun _ => rfl⟩ ?_
            refine wpAnyIn_ready (rs := [1, 5]) (by kernel_rfl) (by simp) (AllReadyIn.cons rfl (fun K hK => ?_) (AllReadyIn.cons rfl (fun K hK => ?_) AllReadyIn.nil))
            · (go_simp; refine hK _ _ ?_; clear hK K)
              refine wpAnyIn_ready (rs := [5]) (by kernel_rfl) (by simp) (AllReadyIn.cons rfl (fun K hK => ?_) AllReadyIn.nil)
              (go_simp; refine hK _ _ ?_; clear hK K)
              refine wpAnyIn_ready (rs := [6]) (by kernel_rfl) (by simp) (AllReadyIn.cons rfl (fun K hK => ?_) AllReadyIn.nil)
              (go_simp; refine hK _ _ ?_; clear hK K)
              refine wpAnyIn_ready (rs := [7]) (by kernel_rfl) (by simp) (AllReadyIn.cons rfl (fun K hK => ?_) AllReadyIn.nil)
              (go_simp; refine hK _ _ ?_; clear hK K)
              refine wpAnyIn_ready (rs := [8]) (by kernel_rfl) (by simp) (AllReadyIn.cons rfl (fun K hK => ?_) AllReadyIn.nil)
              (go_simp; refine hK _ _ ?_; clear hK K)
              refine wpAnyIn_ready (rs := [9]) (by kernel_rfl) (by simp) (AllReadyIn.cons rfl (fun K hK => ?_) AllReadyIn.nil)
              (go_simp; refine hK _ _ ?_; clear hK K)
              refine wpAnyIn_done (by kernel_rfl) ?_ _
              exact ⟨rfl, rfl⟩
            · (go_simp; refine hK _ _ ?_; clear hK K)
              refine wpAnyIn_ready (rs := [1]) (by kernel_rfl) (by simp) (AllReadyIn.cons rfl (fun K hK => ?_) AllReadyIn.nil)
              (go_simp; refine hK _ _ ?_; clear hK K)
              refine wpAnyIn_ready (rs := [6]) (by kernel_rfl) (by simp) (AllReadyIn.cons rfl (fun K hK => ?_) AllReadyIn.nil)
              (go_simp; refine hK _ _ ?_; clear hK K)
              refine wpAnyIn_ready (rs := [7]) (by kernel_rfl) (by simp) (AllReadyIn.cons rfl (fun K hK => ?_) AllReadyIn.nil)
              (go_simp; refine hK _ _ ?_; clear hK K)
              refine wpAnyIn_ready (rs := [8]) (by kernel_rfl) (by simp) (AllReadyIn.cons rfl (fun K hK => ?_) AllReadyIn.nil)
              (go_simp; refine hK _ _ ?_; clear hK K)
              refine wpAnyIn_ready (rs := [9]) (by kernel_rfl) (by simp) (AllReadyIn.cons rfl (fun K hK => ?_) AllReadyIn.nil)
              (go_simp; refine hK _ _ ?_; clear hK K)
              refine wpAnyIn_done (by kernel_rfl) ?_ _
              exact ⟨rfl, rfl⟩
          rintro _ _ _ ⟨rfl, rfl⟩
          gi_wp2
          simp only [World.size_alloc]
          exact HF0.out
      case done =>
        rintro K k0 D W hK hDK ⟨ts, F, hx⟩ hKd
        obtain ⟨q', cap', hhd, hown⟩ := hx.fin
        have c0 := hhd.c0
        have c1 := hhd.c1
        have c2 := hhd.c2
        have c3 := hhd.c3
        simp only [Nat.zero_add] at c1 c2 c3
        obtain ⟨r0, r1, r2, r3, z0, z1, z2, z3⟩ := row4 hx.res
        have HX := Lib.hid hx
        have HO := Lib.hid hown
        have HHD := Lib.hid hhd
        clear hx hown hhd
        simp only [World.size_alloc] at hK
        generalize numH l T.1 = T1 at *
        generalize numF l T.2 = T2 at *
        gi_wp2
        have hg := set4_grown W (w.heap.size + 1) (.int .u8 T1.op) (.string T1.name) (.int .i64 T1.n) (.slice q' T2.len cap')
        have hrow := set4_row HX.out.res (.int .u8 T1.op) (.string T1.name) (.int .i64 T1.n) (.slice q' T2.len cap')
        have hro := HX.out.room
        have hbs := HX.out.base
        have hne : K ≠ w.heap.size + 1 := by omega
        have hKd' := (hg.block K (Array.getElem?_eq_some_iff.1 hKd).1 (by intro e; exact hne (Option.some.inj e))).trans hKd
        refine ⟨by simp, .inl ⟨_, _, rfl, run_takeDeferred hKd', ?_⟩⟩
        have hg2 := grownBy_putObj' (World.set4 W (w.heap.size + 1) (.int .u8 T1.op) (.string T1.name) (.int .i64 T1.n) (.slice q' T2.len cap')) K (.deferred none)
        have hrow2 := (hg2.block _ (Array.getElem?_eq_some_iff.1 hrow).1 (by intro e; exact hne (Option.some.inj e).symm)).trans hrow
        refine ⟨_, results_cell_row rfl _ _ _ _ _ _ (.struct _) rfl hrow2 Try.underlying25 rfl (by kernel_rfl), ?_⟩
        have hFb : ∀ c ∈ F, w.heap.size + 2 ≤ c ∧ c < wr.heap.size + 1 ∧ c < W.heap.size := fun c hc => by have := HX.out.big c (by simp [hc]); exact ⟨this.1, this.2, by omega⟩
        have hFk : ∀ c ∈ F, ((World.set4 W (w.heap.size + 1) (.int .u8 T1.op) (.string T1.name) (.int .i64 T1.n) (.slice q' T2.len cap')).putObj K (.deferred none)).heap[c]? = W.heap[c]? := fun c hc =>
          (hg2.block c (by have := hg.size; have := (hFb c hc).2.2; omega) (by intro e; have := Option.some.inj e; have := (hFb c hc).2.1; omega)).trans (hg.block c (hFb c hc).2.2 (by intro e; have := Option.some.inj e; have := (hFb c hc).1; omega))
        refine ⟨q', cap', F, rfl, HHD.out.lc, HHD.out.cm, HO.out.keep hFk, (List.nodup_cons.1 HX.out.nd).2, fun c hc => ⟨by have := (hFb c hc).1; omega, ?_⟩, ?_⟩
        · exact Nat.lt_of_lt_of_le (hFb c hc).2.2 (Nat.le_trans hg.size hg2.size)
        · exact (HX.out.below.grown hg HX.out.below.size (fun r e => by have := Option.some.inj e; omega)).grown hg2 (Nat.le_trans HX.out.below.size hg.size) (fun r e => by have := Option.some.inj e; omega)
end Go.Proofs.Ytmjijmkdeblefaa

/- The document's At, In, SameInts, Static. -/
namespace Go.Proofs.Ytmjijmkdeblefaa
open Go.RowKit LM
set_option linter.unusedVariables false

/-- A slice that reads as these numbers. -/
structure IsAt (w : World) (a : Option Addr) (c : Nat) (l : List Int) : Prop where
  lc : l.length ≤ c
  cm : c ≤ maxLen
  at_ : 0 < l.length → ∃ b o, a = some ⟨b, o, none⟩ ∧ b < w.heap.size ∧ ∀ i (h : i < l.length), w.cell? ⟨b, o + i, none⟩ = some (.int .i64 l[i])
theorem IsAt.below {w w' : World} {a : Option Addr} {c : Nat} {l : List Int} (h : IsAt w a c l) (hb : Below w.heap.size w w') : IsAt w' a c l :=
  ⟨h.lc, h.cm, fun h0 => by
    obtain ⟨b, o, e, hlt, hc⟩ := h.at_ h0
    exact ⟨b, o, e, Nat.lt_of_lt_of_le hlt hb.size, fun i hi => (hb.cell (p := ⟨b, o + i, none⟩) hlt).trans (hc i hi)⟩⟩
theorem own_is {w : World} {B : Nat} {v : Value} {l : List Int} (h : w.ownsRow B 3 1 v l.length (l.map (Value.int .i64))) : ∃ a c, v = .slice a l.length c ∧ IsAt w a c l := by
  rcases h.2 with ⟨rfl, h0⟩ | ⟨g, c, cur, rfl, _, _, hc, hm, _⟩
  · exact ⟨none, 0, by rw [h0], by omega, Nat.zero_le _, fun h1 => by omega⟩
  · refine ⟨_, c, rfl, hc, hm, fun h1 => ?_⟩
    obtain ⟨g', c', cur', e, _, hg, _, _, hcell⟩ := own_some h h1
    cases e
    refine ⟨_, 0, rfl, (Array.getElem?_eq_some_iff.1 hg).1, fun i hi => ?_⟩
    have := hcell i (.int .i64 l[i]) (by simp [hi])
    simpa using this

theorem atL_found {l : List Int} {n : Int} {j : Nat} (hj : j < l.length) (e : l[j] = n) (hn : n ∉ l.take j) : atL l n = j := by
  unfold atL
  rw [if_pos (by rw [← e]; exact List.getElem_mem hj)]
  have h2 : l.idxOf n = j := by
    rw [← List.take_append_drop j l, List.idxOf_append, if_neg hn, List.drop_eq_getElem_cons hj, e, List.idxOf_cons_self]
    simp; omega
  rw [h2]
theorem atL_in (l : List Int) (n : Int) : decide (0 ≤ atL l n) = decide (n ∈ l) := by
  unfold atL
  by_cases h : n ∈ l
  · rw [if_pos h]; simp [h]
  · rw [if_neg h]; simp [h]

set_option maxRecDepth 100000 in
theorem refAt_any (l : List Int) (a : Option Addr) (c : Nat) (n : Int) (w : World) (h : IsAt w a c l) (hl : l.length ≤ 1099511627776) :
    Calls Try.prog 93 #[.slice a l.length c, .int .i64 n] w fun e w' => e = .returned (.int .i64 (atL l n)) ∧ w = w' := by
  have HA := Lib.hid h
  have HNO : Hid (n ∉ l → atL l n = -1) := Lib.hid fun h => by unfold atL; rw [if_neg h]
  have HYES : Hid (∀ (j : Nat) (x : Int), l[j]? = some x → x = n → n ∉ l.take j → atL l n = j) := Lib.hid fun j x h1 e hn => by
    obtain ⟨hj, h2⟩ := List.getElem?_eq_some_iff.1 h1
    exact atL_found hj (h2.trans e) hn
  have hlc := h.lc
  clear h
  generalize atL l n = r at *
  generalize hLd : l.length = L at *
  have HL := Lib.hid hLd
  clear hLd
  go_enter Try.func93, Try.ntmps93
  go_wp2
  go_loop [5] (fun i => ∃ j : Nat, i = .int .i64 j ∧ j ≤ L ∧ Hid (n ∉ l.take j)) (fun i => L - (intOf i).toNat)
  case atStart => exact ⟨0, rfl, Nat.zero_le _, Lib.hid (by simp)⟩
  case round =>
    obtain ⟨j, rfl, hjl, HN⟩ := hrel
    by_cases hj : j < L
    · have hj2 : j < l.length := by rw [HL.out]; exact hj
      obtain ⟨b, o, rfl, hlt, hc⟩ := HA.out.at_ (by omega)
      have hcj := hc j hj2
      have HJ : Hid (l.take (j + 1) = l.take j ++ [l[j]]) := Lib.hid (List.take_succ_eq_append_getElem hj2)
      have HY := Lib.hid (HYES.out j _ (List.getElem?_eq_getElem hj2))
      clear hc
      generalize l[j] = x at *
      by_cases hx : x = n
      · subst hx
        have HR := Lib.hid (HY.out rfl HN.out)
        go_wp2
        go_ret
        exact ⟨ret_int HR.out.symm, rfl⟩
      · have hx' : (x == n) = false := by simpa using hx
        have HN2 : Hid (n ∉ l.take (j + 1)) := Lib.hid (by rw [HJ.out]; simp; exact ⟨HN.out, fun e => hx e.symm⟩)
        clear hx
        go_wp2
        go_round
        case rel => exact ⟨j + 1, by go_num, by omega, HN2⟩
        case measure => simp [intOf]; omega
    · have hje : j = L := by omega
      have HR : Hid (r = -1) := Lib.hid (HNO.out (by have := HN.out; rwa [hje, ← HL.out, List.take_length] at this))
      clear hje
      go_wp2
      go_ret
      exact ⟨ret_int HR.out.symm, rfl⟩

set_option maxRecDepth 100000 in
theorem In_any (l : List Int) (a : Option Addr) (c : Nat) (n : Int) (w : World) (h : IsAt w a c l) (hl : l.length ≤ 1099511627776) :
    Calls Try.prog 65 #[.slice a l.length c, .int .i64 n] w fun e w' => e = .returned (.bool (decide (n ∈ l))) ∧ w = w' := by
  have HA := Lib.hid (refAt_any l a c n w h hl)
  have HT := Lib.hid (atL_in l n)
  clear h
  generalize decide (n ∈ l) = t at *
  generalize atL l n = r at *
  generalize l.length = L at *
  go_enter Try.func65, Try.ntmps65
  go_wp2_with (refine HA.out.mono ?_; rintro e w' ⟨rfl, rfl⟩)
  go_ret
  exact ⟨ret_bool (by rw [← HT.out]), rfl⟩

set_option maxRecDepth 100000 in
theorem SameInts_any (l l' : List Int) (a a' : Option Addr) (c c' : Nat) (w : World) (h : IsAt w a c l) (h' : IsAt w a' c' l') (hl : l.length ≤ 1099511627776) (hl' : l'.length ≤ 1099511627776) :
    Calls Try.prog 23 #[.slice a l.length c, .slice a' l'.length c'] w fun e w' => ∃ r, e = .returned (.bool r) ∧ (r = true ↔ l = l') ∧ Below w.heap.size w w' := by
  by_cases hL : l.length = l'.length
  · have HA := Lib.hid h
    have HA' := Lib.hid h'
    have HT : Hid (l.take l.length = l'.take l.length → l = l') := Lib.hid fun e => by rwa [List.take_length, hL, List.take_length] at e
    have HN : Hid (∀ (j : Nat) (x y : Int), l[j]? = some x → l'[j]? = some y → x ≠ y → ¬ l = l') := Lib.hid fun j x y h1 h2 hne e => hne (by subst e; rw [h1] at h2; exact Option.some.inj h2)
    have hlc := h.lc
    have hlc' := h'.lc
    have HL2 : Hid (l'.length = l.length) := Lib.hid hL.symm
    rw [← hL] at hlc' ⊢
    clear h h' hL hl'
    generalize hLd : l.length = L at *
    have HL := Lib.hid hLd
    clear hLd
    go_enter Try.func23, Try.ntmps23
    go_wp2
    go_loopw [5] (fun i wr => ∃ j : Nat, i = .int .i64 j ∧ j ≤ L ∧ Hid (l.take j = l'.take j) ∧ Below w.heap.size w wr) (fun i _ => L - (intOf i).toNat)
    case atStart => exact ⟨0, rfl, Nat.zero_le _, Lib.hid rfl, Below.refl _ _⟩
    case round =>
      obtain ⟨j, rfl, hjl, HE, hb⟩ := hrel
      have HB := Lib.hid hb
      by_cases hj : j < L
      · have hj1 : j < l.length := by rw [HL.out]; exact hj
        have hj2 : j < l'.length := by rw [HL2.out]; exact hj
        obtain ⟨b, o, rfl, hlt, hc⟩ := (HA.out.below hb).at_ (by omega)
        obtain ⟨b', o', rfl, hlt', hc'⟩ := (HA'.out.below hb).at_ (by omega)
        have x0 := hc j hj1
        have y0 := hc' j hj2
        have HJ : Hid (l[j] = l'[j] → l.take (j + 1) = l'.take (j + 1)) := Lib.hid fun e => by rw [List.take_succ_eq_append_getElem hj1, List.take_succ_eq_append_getElem hj2, HE.out, e]
        have HNE := Lib.hid (HN.out j _ _ (List.getElem?_eq_getElem hj1) (List.getElem?_eq_getElem hj2))
        have hj0 : (0 : Int) ≤ (j : Int) := by omega
        have hjL : (j : Int) < (L : Int) := by omega
        have hw1 : IntKind.i64.wrap ((j : Int) + 1) = (j : Int) + 1 := IntWalk.i64_in _ (by omega)
        have HD := Lib.hid (fun nq => below_drewN (Below.refl wr.heap.size wr) nq)
        clear hc hc' hb
        generalize l[j] = x at *
        generalize l'[j] = y at *
        by_cases hx : x = y
        · subst hx
          have HE2 := Lib.hid (HJ.out rfl)
          go_wp2
          go_quiet (fail)
          clear hw1
          go_wp2
          go_roundw
          case rel => exact ⟨j + 1, by go_num, by omega, HE2, HB.out.trans ((HD.out _).mono HB.out.size)⟩
          case measure => simp [intOf]; omega
        · have hx' : (x != y) = true := by simpa using hx
          have HR := Lib.hid (HNE.out hx)
          clear hx
          go_wp2
          go_quiet (fail)
          clear hw1
          go_wp2
          go_ret
          exact ⟨false, rfl, ⟨(fun h => nomatch h), fun h => (HR.out h).elim⟩, HB.out.trans ((HD.out _).mono HB.out.size)⟩
      · have hje : j = L := by omega
        have HR : Hid (l = l') := Lib.hid (HT.out (by have := HE.out; rwa [hje] at this))
        clear hje hb
        go_wp2
        go_ret
        exact ⟨true, rfl, ⟨fun _ => HR.out, fun _ => rfl⟩, HB.out⟩
  · have hL' : ((l.length : Int) != l'.length) = true := by simp; omega
    have HN : Hid (¬ l = l') := Lib.hid fun e => hL (by rw [e])
    clear hL h h'
    go_enter Try.func23, Try.ntmps23
    go_wp2
    go_ret
    exact ⟨false, rfl, ⟨(fun h => nomatch h), fun h => (HN.out h).elim⟩, Below.refl _ _⟩
end Go.Proofs.Ytmjijmkdeblefaa
