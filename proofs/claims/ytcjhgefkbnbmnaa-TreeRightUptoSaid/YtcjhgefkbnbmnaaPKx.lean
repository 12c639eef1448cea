/- Has a tree a part of one of two Ops? Closed, Static. -/
import Derived.Sort.QuietTacIn
import Derived.Deep.QuietTactic
import Derived.BigQuiet
import Derived.Test.YtcjhgefkbnbmnaaPD
import Derived.Test.YtcjhgefkbnbmnaaPE
namespace Go.Proofs.Ytcjhgefkbnbmnaa
open Go.RowKit Go.Shelf LM
set_option linter.unusedVariables false
attribute [local go_sem] Oper.semAt_some

theorem asked_wide (P : Program) (o : Oper) (a : Act) (C : World → Prop) : Oper.askedIn Fence.wide P o a C := fun _ _ _ _ => trivial
/-- Two Ops side by side. -/
structure OpsAt (w : World) (b o : Nat) (x y : Int) : Prop where
  c0 : w.cell? ⟨b, o, none⟩ = some (.int .u8 x)
  c1 : w.cell? ⟨b, o + 1, none⟩ = some (.int .u8 y)
theorem OpsAt.below {w w' : World} {b o : Nat} {x y : Int} (h : OpsAt w b o x y) (hb : Below w.heap.size w w') : OpsAt w' b o x y :=
  ⟨(hb.cell (p := ⟨b, o, none⟩) (World.block_lt_of_cell? w _ h.c0)).trans h.c0, (hb.cell (p := ⟨b, o + 1, none⟩) (World.block_lt_of_cell? w _ h.c1)).trans h.c1⟩
theorem OpsAt.drewN {w : World} {b o : Nat} {x y : Int} (h : OpsAt w b o x y) (n : Nat) : OpsAt (w.drewN n) b o x y := h.below (below_drewN (Below.refl _ _) n)

/-- Is it one of two? -/
def twoB (x y v : Int) : Bool := decide (v = x) || decide (v = y)
def idx2 (x y v : Int) : Int := if v = x then 0 else if v = y then 1 else -1

set_option maxRecDepth 100000 in
theorem Index_any (b o c : Nat) (x y v : Int) (w : World) (h : OpsAt w b o x y) :
    Calls Try.prog 114 #[.slice (some ⟨b, o, none⟩) 2 c, .int .u8 v] w fun e w' => e = .returned (.int .i64 (idx2 x y v)) ∧ w = w' := by
  obtain ⟨c0, c1⟩ := h
  have HI : Hid (idx2 x y v = if v = x then 0 else if v = y then 1 else -1) := Lib.hid rfl
  generalize idx2 x y v = r at *
  by_cases h1 : v = x
  · have h1' : (v == x) = true := by simpa using h1
    have HR : Hid (r = 0) := Lib.hid (by rw [HI.out, if_pos h1])
    clear h1 HI
    go_enter Try.func114, Try.ntmps114
    go_wp2
    refine wp_loop_rounds 1 ?_
    rw [rounds_succ]
    go_wp2
    go_ret
    exact ⟨ret_int HR.out.symm, rfl⟩
  · have h1' : (v == x) = false := by simpa using h1
    by_cases h2 : v = y
    · have h2' : (v == y) = true := by simpa using h2
      have HR : Hid (r = 1) := Lib.hid (by rw [HI.out, if_neg h1, if_pos h2])
      clear h1 h2 HI
      go_enter Try.func114, Try.ntmps114
      go_wp2
      refine wp_loop_rounds 2 ?_
      rw [rounds_succ]
      go_wp2
      rw [rounds_succ]
      go_wp2
      go_ret
      exact ⟨ret_int HR.out.symm, rfl⟩
    · have h2' : (v == y) = false := by simpa using h2
      have HR : Hid (r = -1) := Lib.hid (by rw [HI.out, if_neg h1, if_neg h2])
      clear h1 h2 HI
      go_enter Try.func114, Try.ntmps114
      go_wp2
      refine wp_loop_rounds 3 ?_
      rw [rounds_succ]
      go_wp2
      rw [rounds_succ]
      go_wp2
      rw [rounds_succ]
      go_wp2
      go_ret
      exact ⟨ret_int HR.out.symm, rfl⟩

set_option maxRecDepth 100000 in
theorem Contains_any (b o c : Nat) (x y v : Int) (w : World) (h : OpsAt w b o x y) :
    Calls Try.prog 91 #[.slice (some ⟨b, o, none⟩) 2 c, .int .u8 v] w fun e w' => e = .returned (.bool (twoB x y v)) ∧ w = w' := by
  have HI := Lib.hid (Index_any b o c x y v w h)
  have HT : Hid (twoB x y v = decide (0 ≤ idx2 x y v)) := Lib.hid (by
    unfold twoB idx2
    by_cases h1 : v = x
    · simp [h1]
    · by_cases h2 : v = y
      · rw [if_neg h1, if_pos h2]; simp [h2]
      · rw [if_neg h1, if_neg h2]; simp [h1, h2])
  clear h
  generalize twoB x y v = t at *
  generalize idx2 x y v = r at *
  go_enter Try.func91, Try.ntmps91
  go_wp2_with (refine HI.out.mono ?_; rintro e w' ⟨rfl, rfl⟩)
  go_ret
  exact ⟨ret_bool (by rw [HT.out]), rfl⟩

/-- Has a part one of two Ops? -/
def hasB (x y : Int) (l : List (Hd × Fo)) : Bool := l.any fun p => twoB x y p.1.op
theorem hasB_append (x y : Int) (a b : List (Hd × Fo)) : hasB x y (a ++ b) = (hasB x y a || hasB x y b) := by simp [hasB]

/-- What is kept while nothing has been found. -/
structure HasA (w : World) (b c : Nat) (x y : Int) (pre : List (Hd × Fo)) (W : World) : Prop where
  ops : Boxed W (w.heap.size + 1) 102 (.slice (some ⟨b, 0, none⟩) 2 c)
  res : Boxed W (w.heap.size + 1 + 1) 4 (.bool false)
  no : hasB x y pre = false

set_option maxRecDepth 100000 in
set_option maxHeartbeats 2000000 in
theorem has_any (h : Hd) (f : Fo) (q : Option Addr) (cap : Nat) (b c : Nat) (x y : Int) (w : World) (hh : h.ok) (hf : SlF w q cap f) (hok : f.ok) (hsz : 1 + f.size ≤ 1099511627776) (hops : OpsAt w b 0 x y) :
    Calls Try.prog 61 #[.agg #[.int .u8 h.op, .string h.name, .int .i64 h.n, .slice q f.len cap], .slice (some ⟨b, 0, none⟩) 2 c] w fun e w' => e = .returned (.bool (hasB x y (flatL [(h, f)]))) ∧ Below w.heap.size w w' := by
  refine (callsIn_wide (n := 9)).1 ?_
  have hst := boxed_st w h f q cap hf
  have hall := length_one h f
  have HP := Lib.hid parts_any
  have HOPS := Lib.hid hops
  clear hops
  refine callsIn_of_wp_marks Try.func61 rfl trivial ?_ rfl
  simp only [Try.ntmps61, List.size_toArray, List.length_cons, List.length_nil, Nat.reduceAdd, Nat.reduceSub, Array.replicate_succ, Array.replicate_zero, List.push_toArray, List.append_toArray, List.nil_append, List.cons_append]
  gi_wp2_with (refine ⟨trivial, ?_⟩; gi_at_call 57; refine (callsIn_wide.2 (HP.out _ _)).mono ?_; rintro e w' ⟨rfl, rfl⟩)
  refine range_read rfl (by omega) (Bn := w.heap.size + 1 + 1 + 1) rfl trivial (w.heap.size, 0) ?c1 rfl _ ?c2 (h, f) hst ?c3 ?c4
    (fun pre D W => HasA w b c x y pre W) (fun k pre D W => k = .ret ∧ Boxed W (w.heap.size + 1 + 1) 4 (.bool true) ∧ hasB x y (flatL [(h, f)]) = true)
    (fun pre D X Y row hx hg hr => ⟨hx.ops.kept hg (fun e => by have := (hr _ e.symm).1; simp at this; omega), hx.res.kept hg (fun e => by have := (hr _ e.symm).1; simp at this; omega), hx.no⟩)
    (fun k pre D X Y row hx hg hr => ⟨hx.1, hx.2.1.kept hg (fun e => by have := (hr _ e.symm).1; simp at this; omega), hx.2.2⟩) ?c5
    ?a1 ?assign ?body ?done ?stop
  case assign =>
    intro l p W K hK
    gi_wp2
    exact hK
  case c1 => exact Boxed.cell (by have := Boxed.new (((w.alloc (.cells #[.int .u8 h.op, .string h.name, .int .i64 h.n, .slice q f.len cap] 25)).alloc (.cells #[.slice (some ⟨b, 0, none⟩) 2 c] 102)).alloc (.cells #[.bool false] 4)) 64 (.pointer (some ⟨w.heap.size, 0, none⟩)); simpa only [World.size_alloc] using this)
  case c2 => exact (((Below.refl _ _).alloc (by simp) _).alloc (by simp) _).alloc (by simp) _
  case c3 => intro t ht; simp at ht; subst ht; exact ⟨hh, hok⟩
  case c4 => rw [hall]; exact hsz
  case c5 =>
    have b1 := Boxed.new (w.alloc (.cells #[.int .u8 h.op, .string h.name, .int .i64 h.n, .slice q f.len cap] 25)) 102 (.slice (some ⟨b, 0, none⟩) 2 c)
    have b2 := Boxed.new ((w.alloc (.cells #[.int .u8 h.op, .string h.name, .int .i64 h.n, .slice q f.len cap] 25)).alloc (.cells #[.slice (some ⟨b, 0, none⟩) 2 c] 102)) 4 (.bool false)
    simp only [World.size_alloc] at b1 b2
    exact ⟨(b1.alloc _).alloc _, b2.alloc _, rfl⟩
  case body =>
    rintro l pre p0 rest p D W he hB ⟨q1, cap1, hhd, hsl⟩ hlt hx1 hx2 hW hD hA
    have c0 := hhd.c0
    have hpl := hhd.lt
    have hoc := hA.ops.cell
    have hrc := hA.res.cell
    have hrf := hA.res.frozen
    have hBw : Below w.heap.size w W := ((Below.refl _ _).alloc (Nat.le_refl _) _).trans (hB.mono (by simp))
    have HC : Hid (∀ n, Calls Try.prog 91 #[.slice (some ⟨b, 0, none⟩) 2 c, .int .u8 p0.1.op] (W.drewN n) fun e w' => e = .returned (.bool (twoB x y p0.1.op)) ∧ w' = W.drewN n) :=
      Lib.hid fun n => (Contains_any b 0 c x y p0.1.op _ ((HOPS.out.below hBw).drewN n)).mono fun e w' h => ⟨h.1, h.2.symm⟩
    have HA := Lib.hid hA
    have HE := Lib.hid he
    have hW' : w.heap.size + 1 + 1 + 1 ≤ W.heap.size := by simp at hW; omega
    clear hhd hA he hst hsl hBw
    cases ht : twoB x y p0.1.op
    · rw [ht] at HC
      have HN : Hid (hasB x y (pre ++ [p0]) = false) := Lib.hid (by rw [hasB_append, HA.out.no]; simp [hasB, ht])
      clear ht
      generalize p0.1.op = o1 at *
      gi_wp2
      refine region_quiet_round rfl (by kernel_rfl) (by kernel_rfl) (noDefer_spec (by kernel_rfl)) ?_
      repeat (quiet_step_in (fail))
      refine wpQuietIn_step (asked_wide _ _ _ _) (fun K hK => ?_)
      go_simp
      apply Exists.intro
      refine ⟨fun _ => ?_, hK _ ?_⟩
      · exact CallsIn.quiet_of_same (callsIn_wide.2 (HC.out _))
      clear hK K
      refine wpQuietIn_nil ?_
      intro _ hw'
      obtain ⟨nq, hw''⟩ := hw'
      subst hw''
      gi_wp2
      have hbd : Below W.heap.size W (W.drewN nq) := below_drewN (Below.refl _ _) nq
      exact ⟨D, Tch.of_below hbd, hbd.mono (by simp; omega), boxed_below HA.out.ops hbd, boxed_below HA.out.res hbd, HN.out⟩
    · rw [ht] at HC
      have HN : Hid (hasB x y (flatL [(h, f)]) = true) := Lib.hid (by rw [HE.out, hasB_append]; simp [hasB, ht])
      clear ht
      generalize p0.1.op = o1 at *
      gi_wp2
      refine region_quiet_round rfl (by kernel_rfl) (by kernel_rfl) (noDefer_spec (by kernel_rfl)) ?_
      repeat (quiet_step_in (fail))
      refine wpQuietIn_step (asked_wide _ _ _ _) (fun K hK => ?_)
      go_simp
      apply Exists.intro
      refine ⟨fun _ => ?_, hK _ ?_⟩
      · exact CallsIn.quiet_of_same (callsIn_wide.2 (HC.out _))
      clear hK K
      refine wpQuietIn_nil ?_
      intro _ hw'
      obtain ⟨nq, hw''⟩ := hw'
      subst hw''
      gi_wp2
      have hbd : Below W.heap.size W (W.drewN nq) := below_drewN (Below.refl _ _) nq
      have hg : W.grownBy ((W.drewN nq).setCell ⟨w.heap.size + 1 + 1, 0, none⟩ (.bool true)) (some (w.heap.size + 1 + 1)) := grown_of (w2 := W) (m := nq) (Below.refl _ _) (grownBy_setCell' _ _ _)
      exact ⟨D, Tch.grown hg (fun r e => by cases e; left; simp), (Below.refl _ _).grown hg (by simp; omega) (fun k e => by cases e; simp), rfl, Boxed.set (W := W.drewN nq) _ (boxed_below HA.out.res hbd), HN.out⟩
  case done =>
    rintro K D W hK hDK hB hA hKd
    have hc := hA.res.cell
    have hf := hA.res.frozen
    have HG : Hid (hasB x y (flatL [(h, f)]) = false) := Lib.hid hA.no
    have HR := Lib.hid hA.res
    have hW : w.heap.size + 4 ≤ W.heap.size := by have := hB.size; have := (Array.getElem?_eq_some_iff.1 hKd).1; simp at hK; omega
    clear hA hst
    have hg := grownBy_setCell' W (w.heap.size + 1 + 1) (.bool false)
    have hKd' : (W.setCell ⟨w.heap.size + 1 + 1, 0, none⟩ (.bool false)).heap[K]? = some (.deferred (some [])) := (hg.block K (Array.getElem?_eq_some_iff.1 hKd).1 (by intro e; cases e; simp at hK; omega)).trans hKd
    have HKD := Lib.hid hKd'
    clear hKd'
    gi_wp2
    refine ⟨by simp, .inl ⟨_, _, rfl, run_takeDeferred HKD.out, ?_⟩⟩
    have hg2 := grownBy_putObj' (W.setCell ⟨w.heap.size + 1 + 1, 0, none⟩ (.bool false)) K (.deferred none)
    have hc2 := ((HR.out.set (.bool false)).kept hg2 (by intro e; cases e; simp at hK; omega)).cell
    have hB2 : Below w.heap.size w W := ((Below.refl _ _).alloc (Nat.le_refl _) _).trans (hB.mono (by simp))
    refine ⟨.bool false, by simp [results, Try.results61, go_sem, hc2], by rw [HG.out], below_put (hB2.setCell (p := ⟨w.heap.size + 1 + 1, 0, none⟩) (by simp; omega) _) HKD.out (by simp at hK; omega)⟩
  case stop =>
    rintro K k pre rest D W hK hDK he hB ⟨rfl, hbox, hs⟩ hKd
    have hc := hbox.cell
    have HG := Lib.hid hs
    have HR := Lib.hid hbox
    clear hs hst
    gi_wp2
    refine ⟨by simp, .inl ⟨_, _, rfl, run_takeDeferred hKd, ?_⟩⟩
    have hg2 := grownBy_putObj' W K (.deferred none)
    have hc2 := (HR.out.kept hg2 (by intro e; cases e; simp at hK; omega)).cell
    have hB2 : Below w.heap.size w W := ((Below.refl _ _).alloc (Nat.le_refl _) _).trans (hB.mono (by simp))
    refine ⟨.bool true, by simp [results, Try.results61, go_sem, hc2], by rw [HG.out], below_put hB2 hKd (by simp at hK; omega)⟩

theorem ops_new (W : World) (x y : Int) : OpsAt (W.alloc (.cells #[.int .u8 x, .int .u8 y] 22)) W.heap.size 0 x y := by
  have := World.alloc_heap_new W (.cells #[.int .u8 x, .int .u8 y] 22)
  constructor <;> (simp only [World.cell?, this]; rfl)

set_option maxRecDepth 100000 in
theorem Closed_any (h : Hd) (k : Fo) (q : Option Addr) (cap : Nat) (w : World) (hh : h.ok) (hs : SlF w q cap k) (hok : k.ok) (hsz : 1 + k.size ≤ 1099511627776) :
    Calls Try.prog 17 #[.agg #[.int .u8 h.op, .string h.name, .int .i64 h.n, .slice q k.len cap]] w fun e w' => e = .returned (.bool ((rightB h k 1 || rightB h k 2) && !hasB 7 10 (flatL [(h, k)]))) ∧ Below w.heap.size w w' := by
  have HR : Hid (∀ w', Below w.heap.size w w' → Calls Try.prog 54 #[.agg #[.int .u8 h.op, .string h.name, .int .i64 h.n, .slice q k.len cap]] w' fun e w'' => e = .returned (.bool (rightB h k 1 || rightB h k 2)) ∧ Below w'.heap.size w' w'') :=
    Lib.hid fun w' hb => right_any h k q cap w' hh (hs.below hb) hok hsz
  have HH : Hid (∀ b c w', Below w.heap.size w w' → OpsAt w' b 0 7 10 → Calls Try.prog 61 #[.agg #[.int .u8 h.op, .string h.name, .int .i64 h.n, .slice q k.len cap], .slice (some ⟨b, 0, none⟩) 2 c] w' fun e w'' => e = .returned (.bool (hasB 7 10 (flatL [(h, k)]))) ∧ Below w'.heap.size w' w'') :=
    Lib.hid fun b c w' hb ho => has_any h k q cap b c 7 10 w' hh (hs.below hb) hok hsz ho
  have HX := Lib.hid (World.alloc_heap_new w (.cells #[.int .u8 h.op, .string h.name, .int .i64 h.n, .slice q k.len cap] 25))
  clear hs hh hok hsz
  generalize hasB 7 10 (flatL [(h, k)]) = z at *
  generalize (rightB h k 1 || rightB h k 2) = r at *
  generalize k.len = L at *
  cases r
  · go_enter Try.func17, Try.ntmps17
    go_wp2_with fail
    refine (HR.out _ (below_box _ _)).mono ?_
    rintro e w1 ⟨rfl, hb1⟩
    have HB1 := Lib.hid (below_then (below_box _ _) hb1)
    clear hb1
    go_wp2
    go_ret
    exact ⟨rfl, HB1.out⟩
  · go_enter Try.func17, Try.ntmps17
    go_wp2_with fail
    refine (HR.out _ (below_box _ _)).mono ?_
    rintro e w1 ⟨rfl, hb1⟩
    obtain ⟨x0, x1, x2, x3, _⟩ := row4 ((hb1.block _ (by simp)).trans HX.out)
    have HB1 := Lib.hid (below_then (below_box _ _) hb1)
    clear hb1
    go_wp2_with fail
    refine (HH.out _ _ _ (below_al HB1.out _) (ops_new _ _ _)).mono ?_
    rintro e w2 ⟨rfl, hb2⟩
    have HB2 := Lib.hid (below_then (below_al HB1.out _) hb2)
    clear hb2
    go_wp2
    go_ret
    exact ⟨ret_bool (by simp), HB2.out⟩

set_option maxRecDepth 100000 in
theorem Static_any (h : Hd) (k : Fo) (q : Option Addr) (cap : Nat) (w : World) (hh : h.ok) (hs : SlF w q cap k) (hok : k.ok) (hsz : 1 + k.size ≤ 1099511627776) :
    Calls Try.prog 18 #[.agg #[.int .u8 h.op, .string h.name, .int .i64 h.n, .slice q k.len cap]] w fun e w' => e = .returned (.bool ((rightB h k 1 || rightB h k 2) && !hasB 3 9 (flatL [(h, k)]))) ∧ Below w.heap.size w w' := by
  have HR : Hid (∀ w', Below w.heap.size w w' → Calls Try.prog 54 #[.agg #[.int .u8 h.op, .string h.name, .int .i64 h.n, .slice q k.len cap]] w' fun e w'' => e = .returned (.bool (rightB h k 1 || rightB h k 2)) ∧ Below w'.heap.size w' w'') :=
    Lib.hid fun w' hb => right_any h k q cap w' hh (hs.below hb) hok hsz
  have HH : Hid (∀ b c w', Below w.heap.size w w' → OpsAt w' b 0 3 9 → Calls Try.prog 61 #[.agg #[.int .u8 h.op, .string h.name, .int .i64 h.n, .slice q k.len cap], .slice (some ⟨b, 0, none⟩) 2 c] w' fun e w'' => e = .returned (.bool (hasB 3 9 (flatL [(h, k)]))) ∧ Below w'.heap.size w' w'') :=
    Lib.hid fun b c w' hb ho => has_any h k q cap b c 3 9 w' hh (hs.below hb) hok hsz ho
  have HX := Lib.hid (World.alloc_heap_new w (.cells #[.int .u8 h.op, .string h.name, .int .i64 h.n, .slice q k.len cap] 25))
  clear hs hh hok hsz
  generalize hasB 3 9 (flatL [(h, k)]) = z at *
  generalize (rightB h k 1 || rightB h k 2) = r at *
  generalize k.len = L at *
  cases r
  · go_enter Try.func18, Try.ntmps18
    go_wp2_with fail
    refine (HR.out _ (below_box _ _)).mono ?_
    rintro e w1 ⟨rfl, hb1⟩
    have HB1 := Lib.hid (below_then (below_box _ _) hb1)
    clear hb1
    go_wp2
    go_ret
    exact ⟨rfl, HB1.out⟩
  · go_enter Try.func18, Try.ntmps18
    go_wp2_with fail
    refine (HR.out _ (below_box _ _)).mono ?_
    rintro e w1 ⟨rfl, hb1⟩
    obtain ⟨x0, x1, x2, x3, _⟩ := row4 ((hb1.block _ (by simp)).trans HX.out)
    have HB1 := Lib.hid (below_then (below_box _ _) hb1)
    clear hb1
    go_wp2_with fail
    refine (HH.out _ _ _ (below_al HB1.out _) (ops_new _ _ _)).mono ?_
    rintro e w2 ⟨rfl, hb2⟩
    have HB2 := Lib.hid (below_then (below_al HB1.out _) hb2)
    clear hb2
    go_wp2
    go_ret
    exact ⟨ret_bool (by simp), HB2.out⟩
end Go.Proofs.Ytcjhgefkbnbmnaa

/- vars: the numbers of a tree's variables, by where they come first. -/
namespace Go.Proofs.Ytcjhgefkbnbmnaa
open Go.RowKit Go.Shelf LM
set_option linter.unusedVariables false
attribute [local go_sem] Oper.semAt_some

/-- The numbers of variables, each once, by where they come first. -/
def varsL (l : List (Hd × Fo)) : List Int := l.foldl (fun acc p => if isVarB p.1.op = true ∧ p.1.n ∉ acc then acc ++ [p.1.n] else acc) []
theorem varsL_snoc (l : List (Hd × Fo)) (p : Hd × Fo) : varsL (l ++ [p]) = if isVarB p.1.op = true ∧ p.1.n ∉ varsL l then varsL l ++ [p.1.n] else varsL l := by
  unfold varsL
  rw [List.foldl_append]
  rfl
theorem varsL_len (l : List (Hd × Fo)) : (varsL l).length ≤ l.length := by
  refine snoc_ind (P := fun l => (varsL l).length ≤ l.length) (Nat.le_refl _) (fun m q ih => ?_) l
  rw [varsL_snoc]
  split <;> simp <;> omega

/-- The map in block b holds which numbers came. -/
def VmIs (W : World) (b n : Nat) (l : List Int) : Prop :=
  ∃ D : DataW Unit, W.ownsMap Try.prog 3 (plainElem Try.prog 4) b n D ∧ Maps.IsMap D ∧ ∀ x : Int, D.atKey (.int .i64 x) (.lit (.bool false)) = .lit (.bool (decide (x ∈ l)))
theorem info3 : (Try.prog.info? 3).map (fun i => (i.zero, i.size, i.bytes)) = some (some (.int .i64 0), 1, 8) := by kernel_rfl
/-- What vars keeps while it goes along the parts. -/
structure VarA (w : World) (pre : List (Hd × Fo)) (D : Nat → Prop) (W : World) : Prop where
  mbox : Boxed W (w.heap.size + 1 + 1 + 1) 97 (.map (some (w.heap.size + 1 + 1)))
  mis : VmIs W (w.heap.size + 1 + 1) pre.length (varsL pre)
  lst : ∃ v, Boxed W (w.heap.size + 1) 29 v ∧ W.ownsRow (w.heap.size + 5) 3 1 v (varsL pre).length ((varsL pre).map (Value.int .i64)) ∧ ∀ g, v.ownBlock = some g → D g
theorem stepIn_append {F : Fence} {nF : Nat} {P : Program} {ops : Array Oper} {o : Oper} {a : Act} {w : World} {K : Act → World → Prop} {Q : Exit → Act → World → Prop} {E : Prop} (hg : o.guard = none) (s x : Operand) (t : TypeId) (ho : o.op = .call { callee := .builtin .append, args := #[s, x], argTypes := #[t, t] })
    (v sl : Value) (hs : a.eval s = v) (hx : a.eval x = sl) (v' : Value) (w' : World) (hr : (Builtin.append_ #[t, t] o.type #[v, sl]).run P w = .ok v' w') (hK : K (a.put o.dst v') w') :
    if Region.wanted o (yielded ops a.tmps) = true then Oper.wpIn F nF P o a w K Q else E := by
  have hw : Region.wanted o (yielded ops a.tmps) = true := by simp [Region.wanted, hg]
  rw [if_pos hw]
  unfold Oper.wpIn
  refine ⟨by simp [Oper.about, ho, resolve, Target.leads, Sem.run_pure], ?_⟩
  rw [Oper.semAt_plain F _ _ (by rw [ho]; intro c hc'; cases hc')]
  simp [execOp, ho, resolve, invoke, builtin, hs, hx, hr, Result.andThen]
  exact hK

/-- A list of numbers comes back. -/
def IntsPost (w : World) (l : List Int) (e : Ending) (w' : World) : Prop := ∃ v, e = .returned v ∧ w'.ownsRow w.heap.size 3 1 v l.length (l.map (Value.int .i64)) ∧ Below w.heap.size w w'

end Go.Proofs.Ytcjhgefkbnbmnaa

/- Numbering anew: plain words, the map of numbers, what Number's loop keeps. -/
namespace Go.Proofs.Ytcjhgefkbnbmnaa
open Go.RowKit Go.Shelf LM
set_option linter.unusedVariables false

/-- A number's place; -1: none. -/
def atL (l : List Int) (n : Int) : Int := if n ∈ l then (l.idxOf n : Nat) else -1
def numH (l : List Int) (h : Hd) : Hd := if isVarB h.op = true then ⟨h.op, h.name, atL l h.n⟩ else h
def numF (l : List Int) : Fo → Fo
  | .nil => .nil
  | .cons h k r => .cons (numH l h) (numF l k) (numF l r)
theorem varsL_mem (l : List (Hd × Fo)) : ∀ x ∈ l, isVarB x.1.op = true → x.1.n ∈ varsL l := by
  refine snoc_ind (P := fun l => ∀ x ∈ l, isVarB x.1.op = true → x.1.n ∈ varsL l) (fun x hx => by cases hx) (fun m q ih x hx hv => ?_) l
  rw [varsL_snoc]
  rcases List.mem_append.1 hx with h1 | h1
  · split
    · exact List.mem_append.2 (.inl (ih x h1 hv))
    · exact ih x h1 hv
  · simp at h1
    subst h1
    by_cases hm : x.1.n ∈ varsL m
    · rw [if_neg (by simp [hm])]; exact hm
    · rw [if_pos ⟨hv, hm⟩]; simp

/-- A number's place in the map; 0: none. -/
def numOf (m : List Int) (x : Int) : Int := if x ∈ m then (m.idxOf x : Nat) else 0
def NmIs (W : World) (b n : Nat) (m : List Int) : Prop :=
  ∃ D : DataW Unit, W.ownsMap Try.prog 3 (plainElem Try.prog 3) b n D ∧ Maps.IsMap D ∧ ∀ x : Int, D.atKey (.int .i64 x) (.lit (.int .i64 0)) = .lit (.int .i64 (numOf m x))
/-- Each part's number is a number, and each variable's is in the list. -/
def gd (l : List Int) (f : Fo) : Prop := ∀ x ∈ f.flat, x.1.ok ∧ (isVarB x.1.op = true → x.1.n ∈ l)
/-- A part that is still to come. -/
def PendM (l : List Int) : PendT := fun w b o h kf F => ∃ h0 k q cap, h = numH l h0 ∧ kf = numF l k ∧ k.size ≤ 1099511627776 ∧ gd l (.cons h0 k .nil) ∧ HdAt w b o h0 q k.len cap ∧ OwnF w q k F
structure NumI (w : World) (l : List Int) (b0 bm mo N : Nat) (h : Hd) (f : Fo) (k : Nat) (st : List Pl) (ts : List (Hd × Fo)) (F : List Nat) (W : World) : Prop where
  n : k = (flatL ts).length
  small : k ≤ 1099511627776
  pt : PT (PendM l) W (.cons h f .nil) b0 0 st ts F
  nd : (b0 :: F).Nodup
  big : ∀ c ∈ b0 :: F, w.heap.size + 2 ≤ c ∧ c < N
  row : RowB W b0
  res : W.heap[w.heap.size + 1]? = some (.cells #[.int .u8 0, .string ⟨#[]⟩, .int .i64 0, .slice none 0 0] 25 (0, 0))
  mb : Boxed W bm 60 (.map (some mo))
  mi : NmIs W mo l.length l
  below : Below w.heap.size w W
  base : w.heap.size + 2 ≤ bm ∧ bm < N ∧ mo < N
  room : N ≤ W.heap.size

end Go.Proofs.Ytcjhgefkbnbmnaa

/- Vars; Number. -/
namespace Go.Proofs.Ytcjhgefkbnbmnaa
open Go.RowKit Go.Shelf LM
set_option linter.unusedVariables false
attribute [local go_sem] Oper.semAt_some

/-- The variables of a tree. -/
def varsT (T : Hd × Fo) : List Int := varsL (flatL [(T.1, T.2)])
/-- While the map is filled. -/
structure NbI (w : World) (l : List Int) (T : Hd × Fo) (L : Nat) (q1 : Option Addr) (c1 : Nat) (F1 : List Nat) (b0 base : Nat) (v : Value) (j : Nat) (W : World) : Prop where
  le : j ≤ l.length
  mi : NmIs W (b0 + 1) (l.take j).length (l.take j)
  out : W.heap[b0]? = some (.cells #[.int .u8 T.1.op, .string T.1.name, .int .i64 T.1.n, .slice q1 L c1] 25 (0, 0))
  own : OwnF W q1 T.2 F1
  flt : ∀ c ∈ F1, w.heap.size + 2 ≤ c ∧ c < b0
  res : W.heap[w.heap.size + 1]? = some (.cells #[.int .u8 0, .string ⟨#[]⟩, .int .i64 0, .slice none 0 0] 25 (0, 0))
  mb : Boxed W (b0 + 1 + 1) 60 (.map (some (b0 + 1)))
  ints : W.ownsRow base 3 1 v l.length (l.map (Value.int .i64))
  below : Below w.heap.size w W
  room : w.heap.size + 2 ≤ b0 ∧ b0 + 3 ≤ base ∧ base ≤ W.heap.size
end Go.Proofs.Ytcjhgefkbnbmnaa

/- The document's At, In, SameInts, Static. -/
namespace Go.Proofs.Ytcjhgefkbnbmnaa
open Go.RowKit LM
set_option linter.unusedVariables false

/-- A slice that reads as these numbers. -/
structure IsAt (w : World) (a : Option Addr) (c : Nat) (l : List Int) : Prop where
  lc : l.length ≤ c
  cm : c ≤ maxLen
  at_ : 0 < l.length → ∃ b o, a = some ⟨b, o, none⟩ ∧ b < w.heap.size ∧ ∀ i (h : i < l.length), w.cell? ⟨b, o + i, none⟩ = some (.int .i64 l[i])
theorem own_is {w : World} {B : Nat} {v : Value} {l : List Int} (h : w.ownsRow B 3 1 v l.length (l.map (Value.int .i64))) : ∃ a c, v = .slice a l.length c ∧ IsAt w a c l := by
  rcases h.2 with ⟨rfl, h0⟩ | ⟨g, c, cur, rfl, _, _, hc, hm, _⟩
  · exact ⟨none, 0, by rw [h0], by omega, Nat.zero_le _, fun h1 => by omega⟩
  · refine ⟨_, c, rfl, hc, hm, fun h1 => ?_⟩
    obtain ⟨g', c', cur', e, _, hg, _, _, hcell⟩ := own_some h h1
    cases e
    refine ⟨_, 0, rfl, (Array.getElem?_eq_some_iff.1 hg).1, fun i hi => ?_⟩
    have := hcell i (.int .i64 l[i]) (by simp [hi])
    simpa using this

theorem atL_found {l : List Int} {n : Int} {j : Nat} (hj : j < l.length) (e : l[j] = n) (hn : n ∉ l.take j) : atL l n = j := by
  unfold atL
  rw [if_pos (by rw [← e]; exact List.getElem_mem hj)]
  have h2 : l.idxOf n = j := by
    rw [← List.take_append_drop j l, List.idxOf_append, if_neg hn, List.drop_eq_getElem_cons hj, e, List.idxOf_cons_self]
    simp; omega
  rw [h2]
theorem atL_in (l : List Int) (n : Int) : decide (0 ≤ atL l n) = decide (n ∈ l) := by
  unfold atL
  by_cases h : n ∈ l
  · rw [if_pos h]; simp [h]
  · rw [if_neg h]; simp [h]

set_option maxRecDepth 100000 in
theorem refAt_any (l : List Int) (a : Option Addr) (c : Nat) (n : Int) (w : World) (h : IsAt w a c l) (hl : l.length ≤ 1099511627776) :
    Calls Try.prog 93 #[.slice a l.length c, .int .i64 n] w fun e w' => e = .returned (.int .i64 (atL l n)) ∧ w = w' := by
  have HA := Lib.hid h
  have HNO : Hid (n ∉ l → atL l n = -1) := Lib.hid fun h => by unfold atL; rw [if_neg h]
  have HYES : Hid (∀ (j : Nat) (x : Int), l[j]? = some x → x = n → n ∉ l.take j → atL l n = j) := Lib.hid fun j x h1 e hn => by
    obtain ⟨hj, h2⟩ := List.getElem?_eq_some_iff.1 h1
    exact atL_found hj (h2.trans e) hn
  have hlc := h.lc
  clear h
  generalize atL l n = r at *
  generalize hLd : l.length = L at *
  have HL := Lib.hid hLd
  clear hLd
  go_enter Try.func93, Try.ntmps93
  go_wp2
  go_loop [5] (fun i => ∃ j : Nat, i = .int .i64 j ∧ j ≤ L ∧ Hid (n ∉ l.take j)) (fun i => L - (intOf i).toNat)
  case atStart => exact ⟨0, rfl, Nat.zero_le _, Lib.hid (by simp)⟩
  case round =>
    obtain ⟨j, rfl, hjl, HN⟩ := hrel
    by_cases hj : j < L
    · have hj2 : j < l.length := by rw [HL.out]; exact hj
      obtain ⟨b, o, rfl, hlt, hc⟩ := HA.out.at_ (by omega)
      have hcj := hc j hj2
      have HJ : Hid (l.take (j + 1) = l.take j ++ [l[j]]) := Lib.hid (List.take_succ_eq_append_getElem hj2)
      have HY := Lib.hid (HYES.out j _ (List.getElem?_eq_getElem hj2))
      clear hc
      generalize l[j] = x at *
      by_cases hx : x = n
      · subst hx
        have HR := Lib.hid (HY.out rfl HN.out)
        go_wp2
        go_ret
        exact ⟨ret_int HR.out.symm, rfl⟩
      · have hx' : (x == n) = false := by simpa using hx
        have HN2 : Hid (n ∉ l.take (j + 1)) := Lib.hid (by rw [HJ.out]; simp; exact ⟨HN.out, fun e => hx e.symm⟩)
        clear hx
        go_wp2
        go_round
        case rel => exact ⟨j + 1, by go_num, by omega, HN2⟩
        case measure => simp [intOf]; omega
    · have hje : j = L := by omega
      have HR : Hid (r = -1) := Lib.hid (HNO.out (by have := HN.out; rwa [hje, ← HL.out, List.take_length] at this))
      clear hje
      go_wp2
      go_ret
      exact ⟨ret_int HR.out.symm, rfl⟩

set_option maxRecDepth 100000 in
theorem In_any (l : List Int) (a : Option Addr) (c : Nat) (n : Int) (w : World) (h : IsAt w a c l) (hl : l.length ≤ 1099511627776) :
    Calls Try.prog 65 #[.slice a l.length c, .int .i64 n] w fun e w' => e = .returned (.bool (decide (n ∈ l))) ∧ w = w' := by
  have HA := Lib.hid (refAt_any l a c n w h hl)
  have HT := Lib.hid (atL_in l n)
  clear h
  generalize decide (n ∈ l) = t at *
  generalize atL l n = r at *
  generalize l.length = L at *
  go_enter Try.func65, Try.ntmps65
  go_wp2_with (refine HA.out.mono ?_; rintro e w' ⟨rfl, rfl⟩)
  go_ret
  exact ⟨ret_bool (by rw [← HT.out]), rfl⟩

end Go.Proofs.Ytcjhgefkbnbmnaa
