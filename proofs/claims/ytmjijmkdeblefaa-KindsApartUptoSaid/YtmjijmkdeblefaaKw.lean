/- The canonical form, as the document tells it: plain. -/
import Derived.Test.YtmjijmkdeblefaaKv
import Derived.Test.YtmjijmkdeblefaaKdY
import Derived.Deep.QuietTactic
import Derived.BigQuiet
import Derived.Test.YtmjijmkdeblefaaKpF
import Derived.Deep.RegionWith
import Derived.StillTailTactics
import Derived.Test.YtmjijmkdeblefaaKpB
namespace Go.Proofs.Ytmjijmkdeblefaa
open Go.RowKit LM
set_option linter.unusedVariables false

theorem topS_id {h : Hd} (hop : ¬ (h.op = 5 ∨ h.op = 6)) (k : Fo) : topS h k = k := by
  cases k with
  | nil => rfl
  | cons h0 k0 r => simp only [topS]; rw [if_neg hop]
/-- Each tree's canonical form. -/
def canM : Fo → Fo
  | .nil => .nil
  | .cons h k r => .cons (canT h k).1 (canT h k).2 (canM r)
theorem canM_len (f : Fo) : (canM f).len = f.len := by
  induction f with
  | nil => rfl
  | cons h k r _ ih => simp [canM, Fo.len, ih]
theorem canM_get : ∀ {f : Fo} {i : Nat}, i < f.len → (canM f).get i = canT (f.get i).1 (f.get i).2
  | .nil, _, h => by simp [Fo.len] at h
  | .cons h k r, 0, _ => by rw [Fo.get_zero, canM, Fo.get_zero]
  | .cons h k r, i + 1, hi => by rw [Fo.get_succ, canM, Fo.get_succ]; exact canM_get (by simpa [Fo.len] using hi)
theorem type_op {h : Hd} (h2 : sortO h.op = 1) : h.op ≠ 11 := fun e => by rw [e] at h2; cases h2
theorem canT_nop {h : Hd} (hop : h.op ≠ 11) (k : Fo) : canT h k = (h, canL (topS h k)) := by unfold canT; rw [rowS_type hop]
theorem shapes_nil {k : Fo} (h : k.shapes [] = true) : k = .nil := by
  cases k with
  | nil => rfl
  | cons _ _ _ => simp [Fo.shapes] at h
/-- A type's canonical form is of its Kids'. -/
theorem canT_type {h : Hd} {k : Fo} (hs : sh1 h k 1 = true) : canT h k = (h, canM k) := by
  obtain ⟨ks, h1, h2, h3, h4⟩ := sh1_kids hs
  have hop := type_op h2
  rw [canT_nop hop]
  congr 1
  by_cases h5 : h.op = 5 ∨ h.op = 6
  · have e : ks = [2] := by rcases h5 with h5 | h5 <;> · rw [h5] at h1; exact (Option.some.inj h1).symm
    subst e
    cases k with
    | nil => simp [Fo.shapes] at h4
    | cons h0 k0 r =>
      rw [shapes_two] at h4
      have hr := shapes_nil h4.2
      subst hr
      simp only [topS, if_pos h5, canL_cons, canL_nil, canM, canT]
  · rw [topS_id h5]
    by_cases h6 : h.op = 4
    · have e : ks = [1, 1] := by rw [h6] at h1; exact (Option.some.inj h1).symm
      subst e
      cases k with
      | nil => simp [Fo.shapes] at h4
      | cons h0 k0 r =>
        rw [shapes_two] at h4
        obtain ⟨h40, h41⟩ := h4
        cases r with
        | nil => simp [Fo.shapes] at h41
        | cons h0' k0' r' =>
          rw [shapes_two] at h41
          have hr := shapes_nil h41.2
          subst hr
          obtain ⟨_, _, s1, _, _⟩ := sh1_kids h40
          obtain ⟨_, _, s2, _, _⟩ := sh1_kids h41.1
          simp only [canL_cons, canL_nil, canM, canT_nop (type_op s1), canT_nop (type_op s2)]
    · have e : ks = [] := by
        unfold kidsL at h1
        split at h1
        · exact (Option.some.inj h1).symm
        · first | cases h1 | (rw [if_neg h6, if_neg h5, if_neg hop] at h1; cases h1)
      subst e
      rw [shapes_nil h4, canL_nil]; rfl
/-- The order of fields. -/
abbrev ltN : ByteArray × Hd × Fo → ByteArray × Hd × Fo → Bool := fun a b => decide (Lib.compareBytes a.1.data.toList b.1.data.toList < 0)
def canX (x : ByteArray × Hd × Fo) : ByteArray × Hd × Fo := (x.1, (canT x.2.1 x.2.2).1, (canT x.2.1 x.2.2).2)
theorem canT_rowT {t : Hd × Fo} (ht : t.1.op ≠ 11) (ht2 : t.2 = .nil) : ∀ (l : List (ByteArray × Hd × Fo)), (∀ x ∈ l, x.2.1.op ≠ 11) →
    ((rowT t l).1, canL (topS (rowT t l).1 (rowT t l).2)) = rowT t (l.map canX)
  | [], _ => by
    simp only [rowT, List.map_nil]
    rw [ht2]
    show (t.1, canL (topS t.1 .nil)) = t
    rw [show topS t.1 .nil = .nil from rfl, canL_nil, ← ht2]
  | (nm, h, k) :: r, hl => by
    have ih := canT_rowT ht ht2 r (fun x hx => hl x (by simp [hx]))
    have h0 := hl (nm, h, k) (by simp)
    obtain ⟨ih1, ih2⟩ := Prod.mk.inj ih
    simp only [List.map_cons, canX, rowT]
    rw [topS_id (by simp), canL_cons, canL_cons, canL_nil, ih2, ih1, canT_nop h0]
theorem rowF_tail : ∀ (k : Fo) (h : Hd), sh1 h k 2 = true → (rowF h k).2.1.op ≠ 11
  | .nil, h, hs => fun hop => by
    obtain ⟨ks, h1, _, _, h4⟩ := sh1_kids hs
    have hop' : h.op = 11 := hop
    have e : ks = [1, 2] := by rw [hop'] at h1; exact (Option.some.inj h1).symm
    subst e
    simp [Fo.shapes] at h4
  | .cons h0 k0 .nil, h, hs => fun hop => by
    obtain ⟨ks, h1, _, _, h4⟩ := sh1_kids hs
    have hop' : h.op = 11 := hop
    have e : ks = [1, 2] := by rw [hop'] at h1; exact (Option.some.inj h1).symm
    subst e
    rw [shapes_two] at h4
    have := h4.2
    simp [Fo.shapes] at this
  | .cons h0 k0 (.cons h1 k1 r), h, hs => by
    by_cases hop : h.op = 11
    · rw [rowF, if_pos hop]
      obtain ⟨ks, h1', h2', h3', h4'⟩ := sh1_kids hs
      have e : ks = [1, 2] := by rw [hop] at h1'; exact (Option.some.inj h1').symm
      subst e
      rw [shapes_two, shapes_two] at h4'
      exact rowF_tail k1 h1 h4'.2.1
    · rw [rowF, if_neg hop]; exact hop
/-- A row's is of its fields, in order. -/
theorem canT_row {h : Hd} {k : Fo} (hs : sh1 h k 2 = true) : canT h k = rowT (rowF h k).2 ((srt ltN (rowF h k).1).map canX) := by
  obtain ⟨h1, h2⟩ := rowF_sh k h hs
  obtain ⟨ks, e1, e2, e3, e4⟩ := sh1_kids h2
  have hop : (rowF h k).2.1.op ≠ 11 := rowF_tail k h hs
  have hn : (rowF h k).2.2 = .nil := by
    have e : ks = [] := by
      unfold kidsL at e1
      split at e1
      · exact (Option.some.inj e1).symm
      · next h9 =>
        unfold sortO at e2
        split at e2
        · cases e2
        · exfalso; revert e1; (repeat (first | rw [if_neg (by omega)] | rw [if_neg hop])); intro e1; cases e1
    subst e
    exact shapes_nil e4
  have hl : ∀ x ∈ srt ltN (rowF h k).1, x.2.1.op ≠ 11 := fun x hx => by
    obtain ⟨_, _, s1, _, _⟩ := sh1_kids (h1 x ((srt_perm _).mem_iff.1 hx)).2
    exact type_op s1
  exact canT_rowT hop hn _ hl
theorem canL_sh : ∀ (n : Nat) (f : Fo) (ss : List Nat), f.size ≤ n → f.shapes ss = true → (canL f).shapes ss = true
  | _, .nil, ss, _, hs => by rw [canL_nil]; exact hs
  | 0, .cons h k r, ss, hn, hs => by simp [Fo.size] at hn
  | n + 1, .cons h k r, ss, hn, hs => by
    cases ss with
    | nil => simp [Fo.shapes] at hs
    | cons s ss =>
      rw [shapes_two] at hs
      obtain ⟨ks, h1, h2, h3, h4⟩ := sh1_kids hs.1
      simp only [Fo.size] at hn
      have := topS_size h k
      rw [canL_cons, shapes_two]
      exact ⟨sh1_of h1 h2 h3 (canL_sh n _ ks (by omega) (topS_sh h1 h4)), canL_sh n r ss (by omega) hs.2⟩
theorem canT_sh {h : Hd} {k : Fo} {s : Nat} (hs : sh1 h k s = true) (h12 : s = 1 ∨ s = 2) : sh1 (canT h k).1 (canT h k).2 s = true := by
  have h0 : sh1 (rowS h k).1 (rowS h k).2 s = true := by
    rcases h12 with rfl | rfl
    · obtain ⟨_, _, s1, _, _⟩ := sh1_kids hs
      rw [rowS_type (type_op s1)]; exact hs
    · exact rowS_sh hs
  obtain ⟨ks, h1, h2, h3, h4⟩ := sh1_kids h0
  exact sh1_of h1 h2 h3 (canL_sh _ _ ks (Nat.le_refl _) (topS_sh h1 h4))

/-- Right trees are told by their heads, one behind the other. -/
theorem heads_inj : ∀ (f g : Fo) (ss : List Nat) (x y : List Hd), f.shapes ss = true → g.shapes ss = true → f.flat.map Prod.fst ++ x = g.flat.map Prod.fst ++ y → f = g ∧ x = y := by
  intro f
  induction f with
  | nil =>
    intro g ss x y hf hg e
    cases ss with
    | cons _ _ => simp [Fo.shapes] at hf
    | nil => rw [shapes_nil hg] at e ⊢; exact ⟨rfl, by simpa [Fo.flat] using e⟩
  | cons h k r ihk ihr =>
    intro g ss x y hf hg e
    cases ss with
    | nil => simp [Fo.shapes] at hf
    | cons s ss =>
      cases g with
      | nil => simp [Fo.shapes] at hg
      | cons h' k' r' =>
        rw [shapes_two] at hf hg
        simp only [Fo.flat, List.map_cons, List.map_append, List.cons_append, List.cons.injEq, List.append_assoc] at e
        obtain ⟨rfl, e⟩ := e
        obtain ⟨ks, a1, _, _, a4⟩ := sh1_kids hf.1
        obtain ⟨ks', b1, _, _, b4⟩ := sh1_kids hg.1
        have : ks = ks' := Option.some.inj (a1.symm.trans b1)
        subst this
        obtain ⟨rfl, e2⟩ := ihk k' ks _ _ a4 b4 e
        obtain ⟨rfl, e3⟩ := ihr r' ss _ _ hf.2 hg.2 e2
        exact ⟨rfl, e3⟩
theorem heads_tree {h h' : Hd} {k k' : Fo} {s s' : Nat} (hs : sh1 h k s = true) (hs' : sh1 h' k' s' = true) (e : (Fo.cons h k .nil).flat.map Prod.fst = (Fo.cons h' k' .nil).flat.map Prod.fst) : (h, k) = (h', k') := by
  obtain ⟨ks, a1, a2, a3, a4⟩ := sh1_kids hs
  obtain ⟨ks', b1, b2, b3, b4⟩ := sh1_kids hs'
  have e0 : h = h' := by simpa [Fo.flat] using congrArg List.head? e
  subst e0
  have hss : s = s' := a2.symm.trans b2
  subst hss
  have := (heads_inj (.cons h k .nil) (.cons h k' .nil) [s] [] [] (shapes_two.2 ⟨hs, rfl⟩) (shapes_two.2 ⟨hs', rfl⟩) (by simpa using e)).1
  injection this with _ e2 _
  rw [e2]

theorem rowF_names : ∀ (k : Fo) (h : Hd), h.ok → k.ok → ∀ x ∈ (rowF h k).1, x.1.size ≤ maxLen
  | .nil, h, _, _ => by intro x hx; cases hx
  | .cons h0 k0 .nil, h, _, _ => by intro x hx; cases hx
  | .cons h0 k0 (.cons h1 k1 r), h, hh, hk => by
    by_cases hop : h.op = 11
    · rw [rowF, if_pos hop]
      intro x hx
      rcases List.mem_cons.1 hx with rfl | hx
      · exact hh.name
      · exact rowF_names k1 h1 hk.2.2.1 hk.2.2.2.1 x hx
    · rw [rowF, if_neg hop]; intro x hx; cases hx
theorem rowS_ok {h : Hd} {k : Fo} (hh : h.ok) (hk : k.ok) : (rowS h k).1.ok ∧ (rowS h k).2.ok := by
  have h1 := rowF_ok hh hk
  have h2 := rowF_names k h hh hk
  refine rowT_ok h1.2 (fun x hx => ?_)
  have hm := (srt_perm _).mem_iff.1 hx
  exact ⟨h2 x hm, h1.1 x hm⟩
theorem topS_ok {h : Hd} {k : Fo} (hk : k.ok) : (topS h k).ok := by
  cases k with
  | nil => exact hk
  | cons h0 k0 r =>
    simp only [topS]
    split
    · exact ⟨(rowS_ok hk.1 hk.2.1).1, (rowS_ok hk.1 hk.2.1).2, hk.2.2⟩
    · exact hk
theorem canL_ok : ∀ (n : Nat) (f : Fo), f.size ≤ n → f.ok → (canL f).ok
  | _, .nil, _, _ => by rw [canL_nil]; trivial
  | 0, .cons h k r, hn, _ => by simp [Fo.size] at hn
  | n + 1, .cons h k r, hn, hk => by
    simp only [Fo.size] at hn
    have := topS_size h k
    rw [canL_cons]
    exact ⟨hk.1, canL_ok n _ (by omega) (topS_ok hk.2.1), canL_ok n r (by omega) hk.2.2⟩
theorem canT_ok {h : Hd} {k : Fo} (hh : h.ok) (hk : k.ok) : (canT h k).1.ok ∧ (canT h k).2.ok :=
  ⟨(rowS_ok hh hk).1, canL_ok _ _ (Nat.le_refl _) (topS_ok (rowS_ok hh hk).2)⟩
end Go.Proofs.Ytmjijmkdeblefaa

/- Two lists of parts' places, their heads held one against the other. -/
namespace Go.Proofs.Ytmjijmkdeblefaa
open Go.RowKit LM
set_option linter.unusedVariables false

/-- A head at a place. -/
structure HAt (w : World) (p : Pl) (h : Hd) : Prop where
  c0 : w.cell? ⟨p.1, p.2, none⟩ = some (.int .u8 h.op)
  c1 : w.cell? ⟨p.1, p.2 + 1, none⟩ = some (.string h.name)
  c2 : w.cell? ⟨p.1, p.2 + 2, none⟩ = some (.int .i64 h.n)
theorem HAt.lt {w : World} {p : Pl} {h : Hd} (hh : HAt w p h) : p.1 < w.heap.size := World.block_lt_of_cell? w _ hh.c0
theorem HAt.same {w w' : World} {p : Pl} {h : Hd} (hh : HAt w p h) (e : w'.heap[p.1]? = w.heap[p.1]?) : HAt w' p h :=
  ⟨(World.cell?_of_block (a := ⟨p.1, p.2, none⟩) e).trans hh.c0, (World.cell?_of_block (a := ⟨p.1, p.2 + 1, none⟩) e).trans hh.c1, (World.cell?_of_block (a := ⟨p.1, p.2 + 2, none⟩) e).trans hh.c2⟩
theorem HAt.below {w w' : World} {p : Pl} {h : Hd} (hb : Below w.heap.size w w') (hh : HAt w p h) : HAt w' p h := hh.same (hb.block _ hh.lt)

/-- Places with their heads. -/
def HsAt (w : World) : List Pl → List Hd → Prop
  | [], [] => True
  | p :: ps, h :: hs => HAt w p h ∧ HsAt w ps hs
  | _, _ => False
theorem HsAt.below {w w' : World} (hb : Below w.heap.size w w') : ∀ {ps : List Pl} {hs : List Hd}, HsAt w ps hs → HsAt w' ps hs
  | [], [], _ => trivial
  | _ :: _, _ :: _, ⟨h1, h2⟩ => ⟨h1.below hb, HsAt.below hb h2⟩
  | [], _ :: _, h => h.elim
  | _ :: _, [], h => h.elim
theorem HsAt.append {w : World} : ∀ {ps ps' : List Pl} {hs hs' : List Hd}, HsAt w ps hs → HsAt w ps' hs' → HsAt w (ps ++ ps') (hs ++ hs')
  | [], _, [], _, _, h => h
  | _ :: _, _, _ :: _, _, ⟨h1, h2⟩, h => ⟨h1, HsAt.append h2 h⟩
  | [], _, _ :: _, _, h, _ => h.elim
  | _ :: _, _, [], _, h, _ => h.elim
theorem HsAt.len {w : World} : ∀ {ps : List Pl} {hs : List Hd}, HsAt w ps hs → ps.length = hs.length
  | [], [], _ => rfl
  | _ :: _, _ :: _, ⟨_, h⟩ => by simp [HsAt.len h]
  | [], _ :: _, h => h.elim
  | _ :: _, [], h => h.elim
theorem HsAt.get {w : World} : ∀ {ps : List Pl} {hs : List Hd}, HsAt w ps hs → ∀ i (h1 : i < ps.length) (h2 : i < hs.length), HAt w ps[i] hs[i]
  | [], [], _, i, h1, _ => by simp at h1
  | _ :: _, _ :: _, ⟨h, _⟩, 0, _, _ => h
  | _ :: _, _ :: _, ⟨_, h⟩, i + 1, h1, h2 => HsAt.get h i (by simpa using h1) (by simpa using h2)
  | [], _ :: _, h, _, _, _ => h.elim
  | _ :: _, [], h, _, _, _ => h.elim

/-- Are two heads alike? -/
def hdB (a b : Hd) : Bool := decide (a.op = b.op) && decide (a.name = b.name) && decide (a.n = b.n)
theorem hdB_iff (a b : Hd) : hdB a b = true ↔ a = b := by
  obtain ⟨a1, a2, a3⟩ := a
  obtain ⟨b1, b2, b3⟩ := b
  simp [hdB, and_assoc]

set_option maxRecDepth 100000 in
set_option maxHeartbeats 1000000 in
theorem alike_any (p p' : Pl) (h h' : Hd) (w : World) (hp : HAt w p h) (hp' : HAt w p' h') :
    Calls Try.prog 64 #[.pointer (some ⟨p.1, p.2, none⟩), .pointer (some ⟨p'.1, p'.2, none⟩)] w fun e w' => e = .returned (.bool (hdB h h')) ∧ Below w.heap.size w w' := by
  have hd : ∀ n, Below w.heap.size w (w.drewN n) := fun n => below_drewN (Below.refl _ _) n
  have HD := Lib.hid hd
  have c0 := hp.c0
  have c1 := hp.c1
  have c2 := hp.c2
  have d0 := hp'.c0
  have d1 := hp'.c1
  have d2 := hp'.c2
  clear hp hp' hd
  obtain ⟨op, name, nn⟩ := h
  obtain ⟨op', name', nn'⟩ := h'
  simp only at c0 c1 c2 d0 d1 d2
  by_cases h1 : op = op'
  · subst h1
    by_cases h2 : name = name'
    · subst h2
      by_cases h3 : nn = nn'
      · subst h3
        have HR : Hid (hdB ⟨op, name, nn⟩ ⟨op, name, nn⟩ = true) := Lib.hid ((hdB_iff _ _).2 rfl)
        generalize hdB ⟨op, name, nn⟩ ⟨op, name, nn⟩ = r at *
        go_enter Try.func64, Try.ntmps64
        go_wp2
        go_quiet (fail)
        go_wp2
        go_ret
        exact ⟨ret_bool HR.out.symm, HD.out _⟩
      · have h3' : (nn == nn') = false := by simpa using h3
        have HR : Hid (hdB ⟨op, name, nn⟩ ⟨op, name, nn'⟩ = false) := Lib.hid (by simp [hdB, h3])
        generalize hdB ⟨op, name, nn⟩ ⟨op, name, nn'⟩ = r at *
        clear h3
        go_enter Try.func64, Try.ntmps64
        go_wp2
        go_quiet (fail)
        go_wp2
        go_ret
        exact ⟨ret_bool HR.out.symm, HD.out _⟩
    · have h2' : (name.toList == name'.toList) = false := by rw [beq_eq_false_iff_ne]; exact fun e => h2 (toList_inj e)
      have HR : Hid (hdB ⟨op, name, nn⟩ ⟨op, name', nn'⟩ = false) := Lib.hid (by simp [hdB, h2])
      generalize hdB ⟨op, name, nn⟩ ⟨op, name', nn'⟩ = r at *
      clear h2
      go_enter Try.func64, Try.ntmps64
      go_wp2
      go_quiet (fail)
      go_wp2
      go_ret
      exact ⟨ret_bool HR.out.symm, HD.out _⟩
  · have h1' : (op == op') = false := by simpa using h1
    have HR : Hid (hdB ⟨op, name, nn⟩ ⟨op', name', nn'⟩ = false) := Lib.hid (by simp [hdB, h1])
    generalize hdB ⟨op, name, nn⟩ ⟨op', name', nn'⟩ = r at *
    clear h1
    go_enter Try.func64, Try.ntmps64
    go_wp2
    go_quiet (fail)
    go_wp2
    go_ret
    exact ⟨ret_bool HR.out.symm, HD.out _⟩

/-- A slice of places, in memory. -/
def PsAt (w : World) (a : Option Addr) (ps : List Pl) : Prop := 0 < ps.length → ∃ b o, a = some ⟨b, o, none⟩ ∧ ∀ i (h : i < ps.length), w.cell? ⟨b, o + i, none⟩ = some (.pointer (some ⟨ps[i].1, ps[i].2, none⟩))
theorem PsAt.below {w w' : World} (hb : Below w.heap.size w w') {a : Option Addr} {ps : List Pl} (h : PsAt w a ps) : PsAt w' a ps := fun h0 => by
  obtain ⟨b, o, e, hc⟩ := h h0
  exact ⟨b, o, e, fun i hi => (hb.cell (p := ⟨b, o + i, none⟩) (World.block_lt_of_cell? w _ (hc i hi))).trans (hc i hi)⟩

/-- What holds while the first j have been found alike. -/
structure EqI (w : World) (hs hs' : List Hd) (L j : Nat) (wr : World) : Prop where
  le : j ≤ L
  al : hs.take j = hs'.take j
  below : Below w.heap.size w wr
theorem EqI.go {w : World} {hs hs' : List Hd} {L j : Nat} {wr w2 : World} (h : EqI w hs hs' L j wr) (hb : Below wr.heap.size wr w2) (hj : j < L) (h1 : j < hs.length) (h2 : j < hs'.length) (he : hs[j] = hs'[j]) : EqI w hs hs' L (j + 1) w2 :=
  ⟨hj, by rw [List.take_succ_eq_append_getElem h1, List.take_succ_eq_append_getElem h2, h.al, he], h.below.trans (hb.mono h.below.size)⟩

set_option maxRecDepth 100000 in
set_option maxHeartbeats 1000000 in
theorem eqf_any (a a' : Option Addr) (c c' : Nat) (ps ps' : List Pl) (hs hs' : List Hd) (w : World) (hp : PsAt w a ps) (hp' : PsAt w a' ps') (hh : HsAt w ps hs) (hh' : HsAt w ps' hs')
    (l : ps.length ≤ 1099511627776) (l' : ps'.length ≤ 1099511627776) (hc : ps.length ≤ c) (hc' : ps'.length ≤ c') :
    Calls Try.prog 62 #[.slice a ps.length c, .slice a' ps'.length c', .func (.func 64) #[] #[]] w fun e w' => ∃ r, e = .returned (.bool r) ∧ (r = true ↔ hs = hs') ∧ Below w.heap.size w w' := by
  have e1 := hh.len
  have e2 := hh'.len
  by_cases hl : ps.length = ps'.length
  · have HT : Hid (hs.take ps.length = hs'.take ps.length → hs = hs') := Lib.hid fun h => by
      rwa [List.take_of_length_le (by omega), List.take_of_length_le (by omega)] at h
    have HN : Hid (∀ j (h1 : j < hs.length) (h2 : j < hs'.length), hs[j] ≠ hs'[j] → ¬ hs = hs') := Lib.hid fun j h1 h2 hne e => hne (by subst e; rfl)
    have hst : EqI w hs hs' ps.length 0 w := ⟨Nat.zero_le _, rfl, Below.refl _ _⟩
    have HST := Lib.hid hst
    have HP := Lib.hid hp
    have HP' := Lib.hid hp'
    have HH := Lib.hid hh
    have HH' := Lib.hid hh'
    have HL1 : Hid (hs.length = ps.length) := Lib.hid e1.symm
    have HL2 : Hid (hs'.length = ps.length) := Lib.hid (by omega)
    have HL3 : Hid (ps'.length = ps.length) := Lib.hid hl.symm
    have HL4 : Hid (ps.length = ps.length) := Lib.hid rfl
    rw [← hl] at hc' ⊢
    clear hp hp' hh hh' e1 e2 hl hst l'
    generalize hLd : ps.length = L at *
    have HLD := Lib.hid hLd
    clear hLd
    go_enter Try.func62, Try.ntmps62
    go_wp2
    go_loopw [17] (fun i wr => ∃ j : Nat, i = .int .i64 j ∧ EqI w hs hs' L j wr) (fun i _ => L - (intOf i).toNat)
    case atStart => exact ⟨0, rfl, HST.out⟩
    case round =>
      obtain ⟨j, rfl, hI⟩ := hrel
      have hjL := hI.le
      have hb := hI.below
      have HI := Lib.hid hI
      by_cases hj : j < L
      · have hj1 : j < ps.length := by rw [HLD.out]; exact hj
        have hj2 : j < ps'.length := by rw [HL3.out]; exact hj
        have hj3 : j < hs.length := by rw [HL1.out]; exact hj
        have hj4 : j < hs'.length := by rw [HL2.out]; exact hj
        obtain ⟨b, o, rfl, hce⟩ := (HP.out.below hb) (by omega)
        obtain ⟨b', o', rfl, hce'⟩ := (HP'.out.below hb) (by omega)
        have x0 := hce j hj1
        have y0 := hce' j hj2
        have HA : Hid (∀ w', Below wr.heap.size wr w' → Calls Try.prog 64 #[.pointer (some ⟨(ps[j]).1, (ps[j]).2, none⟩), .pointer (some ⟨(ps'[j]).1, (ps'[j]).2, none⟩)] w' fun e w'' => e = .returned (.bool (hdB hs[j] hs'[j])) ∧ Below w'.heap.size w' w'') :=
          Lib.hid fun w' hb' => alike_any ps[j] ps'[j] hs[j] hs'[j] w' (((HH.out.below hb).below hb').get j hj1 hj3) (((HH'.out.below hb).below hb').get j hj2 hj4)
        by_cases heq : hs[j] = hs'[j]
        · have hE : hdB hs[j] hs'[j] = true := (hdB_iff _ _).2 heq
          rw [hE] at HA
          have HGO : Hid (∀ w2, Below wr.heap.size wr w2 → EqI w hs hs' L (j + 1) w2) := Lib.hid fun w2 h2 => hI.go h2 hj hj3 hj4 heq
          clear heq hE hI hb hce hce' hj3 hj4
          generalize ps[j] = p1 at *
          generalize ps'[j] = p2 at *
          go_wp2_with (refine (HA.out _ (Below.refl _ _)).mono ?_; rintro e w2 ⟨rfl, hb2⟩; have HB2 := Lib.hid hb2; clear hb2)
          go_roundw
          case rel => exact ⟨j + 1, by go_num, HGO.out _ HB2.out⟩
          case measure => simp [intOf]; omega
        · have hE : hdB hs[j] hs'[j] = false := by rw [Bool.eq_false_iff]; exact fun h => heq ((hdB_iff _ _).1 h)
          rw [hE] at HA
          have HX := Lib.hid (HN.out j hj3 hj4 heq)
          have HB := Lib.hid hb
          clear heq hE hI hb hce hce' hj3 hj4
          generalize ps[j] = p1 at *
          generalize ps'[j] = p2 at *
          go_wp2_with (refine (HA.out _ (Below.refl _ _)).mono ?_; rintro e w2 ⟨rfl, hb2⟩; have HB2 := Lib.hid hb2; clear hb2)
          go_ret
          exact ⟨false, rfl, ⟨(fun h => nomatch h), fun h => (HX.out h).elim⟩, HB.out.trans (HB2.out.mono HB.out.size)⟩
      · have hje : j = L := by omega
        have HJ := Lib.hid hje
        clear hje hI hb
        go_wp2
        go_ret
        exact ⟨true, rfl, ⟨fun _ => HT.out (by have := HI.out.al; rw [HJ.out] at this; exact this), fun _ => rfl⟩, HI.out.below⟩
  · have hl' : ((ps.length : Int) != ps'.length) = true := by simp; omega
    have HN : Hid (¬ hs = hs') := Lib.hid fun e => hl (by rw [e1, e2, e])
    clear hl e1 e2 hp hp' hh hh'
    go_enter Try.func62, Try.ntmps62
    go_wp2
    go_ret
    exact ⟨false, rfl, ⟨(fun h => nomatch h), fun h => (HN.out h).elim⟩, Below.refl _ _⟩
end Go.Proofs.Ytmjijmkdeblefaa

/- The places of all parts, gathered: AppendSeq, Collect. -/
namespace Go.Proofs.Ytmjijmkdeblefaa
open Go.RowKit Go.Shelf LM
set_option linter.unusedVariables false
attribute [local go_sem] Oper.semAt_some

/-- What is kept while places are gathered. -/
def PlB (w1 : World) (Bp base : Nat) (pre : List (Hd × Fo)) (D : Nat → Prop) (W : World) : Prop :=
  ∃ v pls, Boxed W Bp 69 v ∧ W.ownsRow base 64 1 v pre.length (pls.map Pl.ptr) ∧ HsAt w1 pls (pre.map Prod.fst) ∧ ∀ g, v.ownBlock = some g → D g
theorem PlB.kept {w1 : World} {Bp base : Nat} {pre : List (Hd × Fo)} {D : Nat → Prop} {X Y : World} {row : Option Nat} (h : PlB w1 Bp base pre D X) (hg : X.grownBy Y row) (hr : ∀ r, row = some r → base ≤ r ∧ ¬ D r) (h2 : Bp < base) :
    PlB w1 Bp base pre D Y := by
  obtain ⟨v, pls, h3, h4, h5, h6⟩ := h
  have hv : v.ownBlock = none ∨ v.ownBlock ≠ row := by
    cases hv : v.ownBlock with
    | none => exact .inl rfl
    | some g => exact .inr fun e => (hr g e.symm).2 (h6 g hv)
  refine ⟨v, pls, h3.kept hg (fun e => ?_), h4.kept hg hv, h5, h6⟩
  have := (hr _ e.symm).1; omega

theorem PlB.snoc {w1 : World} {Bp base B : Nat} {pre : List (Hd × Fo)} {pls : List Pl} {D : Nat → Prop} {W w2 : World} {v v' : Value} {p : Pl} {x : Hd × Fo} {tmp : Obj} {L : Nat}
    (hL : pre.length = L) (hbp : Boxed W Bp 69 v) (hvD : ∀ g, v.ownBlock = some g → D g ∧ base ≤ g) (hD : ∀ b, D b → b < W.heap.size) (h1 : B ≤ Bp) (h2 : Bp < base) (h5 : base ≤ W.heap.size)
    (hps : HsAt w1 pls (pre.map Prod.fst)) (hx : HAt w1 p x.1)
    (hown : w2.ownsRow base 64 1 v' (L + 1) (pls.map Pl.ptr ++ [.pointer (some ⟨p.1, p.2, none⟩)])) (hg : (W.alloc tmp).grownBy w2 v.ownBlock) (hat : v'.ownBlock = v.ownBlock ∨ v'.ownBlock = some (W.alloc tmp).heap.size) :
    Boxed w2 Bp 69 v ∧ ∃ D', Tch base D D' W (w2.setCell ⟨Bp, 0, none⟩ v') ∧ Below B W (w2.setCell ⟨Bp, 0, none⟩ v') ∧ PlB w1 Bp base (pre ++ [x]) D' (w2.setCell ⟨Bp, 0, none⟩ v') := by
  have ha : Below W.heap.size W (W.alloc tmp) := below_box W tmp
  have hsz : (W.alloc tmp).heap.size = W.heap.size + 1 := by simp
  have hg1 := hg.size
  rw [hsz] at hg1 hat
  have hne : ∀ {b : Nat}, b < base → some b ≠ v.ownBlock := fun hb e => by have := (hvD _ e.symm).2; omega
  have k1 : ∀ b, b < W.heap.size → some b ≠ v.ownBlock → w2.heap[b]? = W.heap[b]? := fun b hb hn => (hg.block b (by rw [hsz]; omega) hn).trans (ha.block b hb)
  have hbp1 : Boxed w2 Bp 69 v := (k1 Bp (by omega) (hne h2)).trans hbp
  have hset := grownBy_setCell' w2 Bp v'
  have hlt := hown.lt
  refine ⟨hbp1, fun b => D b ∨ v'.ownBlock = some b, ⟨?_, ?_, ?_, fun b h => .inl h⟩, ⟨?_, ?_, ?_, ?_, ?_⟩, v', pls ++ [p], hbp1.set v', ?_, ?_, fun g hg => .inr hg⟩
  · have := hset.size; omega
  · intro b hb hlt2 hnd
    have hn : some b ≠ v.ownBlock := fun e => hnd (hvD b e.symm).1
    exact (hset.block b (by omega) (fun e => by have := Option.some.inj e; omega)).trans (k1 b hlt2 hn)
  · rintro b (hb | hb)
    · exact .inl hb
    · rcases hat with e | e
      · exact .inl (hvD b (e ▸ hb)).1
      · right
        have hb2 : b = W.heap.size + 1 := by rw [e] at hb; exact (Option.some.inj hb).symm
        have h6 := (hlt b hb).2
        have := hset.size
        exact ⟨by omega, by omega⟩
  · exact hset.os.trans (hg.os.trans ha.os)
  · exact hset.tape.trans (hg.tape.trans ha.tape)
  · exact hset.output.trans (hg.output.trans ha.output)
  · have := hset.size; omega
  · intro b hb
    exact (hset.block b (by omega) (fun e => by have := Option.some.inj e; omega)).trans (k1 b (by omega) (hne (by omega)))
  · rw [List.length_append, hL, List.map_append]
    have hk := hown.kept hset (.inr fun e => by have := (hlt _ e).1; omega)
    simpa [Pl.ptr] using hk
  · rw [List.map_append]
    exact hps.append ⟨hx, trivial⟩

/-- The places of all parts come back. -/
def PsPost (w : World) (hs : List Hd) (e : Ending) (w' : World) : Prop :=
  ∃ a cap pls, e = .returned (.slice a hs.length cap) ∧ hs.length ≤ cap ∧ PsAt w' a pls ∧ HsAt w' pls hs ∧ Below w.heap.size w w'

theorem own_ps {w : World} {base : Nat} {a : Option Addr} {n cap : Nat} {ps : List Pl} (h : w.ownsRow base 64 1 (.slice a n cap) n (ps.map Pl.ptr)) : PsAt w a ps ∧ n ≤ cap := by
  by_cases hn : 0 < n
  · obtain ⟨g, c, cur, e, _, _, hc, _, hcl⟩ := own_some h hn
    cases e
    refine ⟨fun _ => ⟨g, 0, rfl, fun i hi => ?_⟩, hc⟩
    have := hcl i (Pl.ptr ps[i]) (by simp [hi])
    simpa [Pl.ptr] using this
  · have h0 := h.1
    have : ps.length = 0 := by simp at h0; omega
    exact ⟨fun h1 => by omega, by omega⟩

set_option maxRecDepth 100000 in
set_option maxHeartbeats 2000000 in
theorem AppendSeq_any (h : Hd) (f : Fo) (root : Pl) (Bn : Nat) (w : World) (ht : StAt w [root] [(h, f)]) (hok : okL [(h, f)]) (hsz : 1 + f.size ≤ 1099511627776) (hBn : w.cell? ⟨Bn, 0, none⟩ = some (.pointer (some ⟨root.1, root.2, none⟩))) :
    Calls Try.prog 92 #[.slice none 0 0, .func (.func 88) #[] #[.pointer (some ⟨Bn, 0, none⟩)]] w (PsPost w ((flatL [(h, f)]).map Prod.fst)) := by
  refine (callsIn_wide (n := 9)).1 ?_
  have hall := length_one h f
  have HSZ := Lib.hid hsz
  have HOK := Lib.hid hok
  have HT := Lib.hid ht
  have hc1 : (w.alloc (.cells #[.slice none 0 0] 69)).cell? ⟨Bn, 0, none⟩ = some (.pointer (some ⟨root.1, root.2, none⟩)) := ((below_box w _).cell (p := ⟨Bn, 0, none⟩) (World.block_lt_of_cell? w _ hBn)).trans hBn
  have HC1 := Lib.hid hc1
  have HALL := Lib.hid hall
  clear ht hok hsz hBn hc1 hall
  refine callsIn_of_wp_marks Try.func92 rfl trivial ?_ rfl
  simp only [Try.ntmps92, List.size_toArray, List.length_cons, List.length_nil, Nat.reduceAdd, Nat.reduceSub, Array.replicate_succ, Array.replicate_zero, List.push_toArray, List.append_toArray, List.nil_append, List.cons_append]
  gi_wp2
  refine range_read rfl (by omega) (Bn := Bn) rfl trivial root HC1.out rfl w ?c2 (h, f) HT.out HOK.out ?c4
    (fun pre D W => PlB w w.heap.size (w.heap.size + 1) pre D W) (fun _ _ _ _ => False)
    ?hA (fun _ _ _ _ _ _ hx _ _ => hx.elim) ?c5 ?a1 ?assign ?body ?done ?stop
  case assign =>
    intro l p W K hK
    gi_wp2
    exact hK
  case c2 => exact below_box _ _
  case c4 => rw [HALL.out]; exact HSZ.out
  case hA => exact fun pre D X Y row hx hg hr => hx.kept hg (fun r e => by have := hr r e; simpa using this) (by omega)
  case c5 => exact ⟨_, [], Boxed.new w _ _, World.ownsRow_nil _ _ _ _, trivial, fun g hg => by cases hg⟩
  case body =>
    rintro l pre x rest p D W he hB ⟨q2, cap2, hhd, hsl⟩ hlt hx1 hx2 hW hD ⟨v, pls, hbp, hown, hps, hvD⟩
    have hpc := hbp.cell
    have hpf := hbp.frozen
    have hx : HAt w p x.1 := by
      have e := (hB.block _ hlt).symm
      have := hhd.same e
      exact ⟨this.c0, this.c1, this.c2⟩
    have hlen : pre.length + 1 ≤ 1099511627776 := by
      have h1 := HALL.out; rw [he] at h1; simp at h1
      have := HSZ.out; omega
    obtain ⟨i0, hi, hz0, hz1, hz2⟩ := info_parts info56
    obtain ⟨a, cp, rfl⟩ := own_value hown
    have hvd : ∀ g, (Value.slice a pre.length cp).ownBlock = some g → D g ∧ w.heap.size + 1 ≤ g := fun g hg => ⟨hvD g hg, (hown.lt g hg).1⟩
    have HVD2 := Lib.hid hvd
    have hW2 : w.heap.size + 1 ≤ W.heap.size := by simpa using hW
    have HD := Lib.hid hD
    have HX := Lib.hid hx
    have HPS := Lib.hid hps
    have HO := Lib.hid hown
    have HBP := Lib.hid hbp
    have hk1 := cell_one_new W (.pointer (some ⟨p.1, p.2, none⟩)) 64
    have HK1 := Lib.hid hk1
    clear hx hhd hsl he hx1 hx2 hbp hown hps hvD hvd hD hk1
    generalize hLd : pre.length = L at *
    have HL := Lib.hid hLd
    clear hLd
    gi_wp2_with (gi_at_builtin; (refine wpListIn_append_own_at _ rfl (.tmp 8) (.tmp 10) 69 rfl (w.heap.size + 1) 64 i0 (.pointer none) 1 8 Try.underlying69 hi hz0 hz1 hz2 rfl (by decide) _ _ _ rfl (HO.out.alloc _) ⟨W.heap.size, 0, none⟩ 1 1 [.pointer (some ⟨p.1, p.2, none⟩)] rfl rfl HK1.out (by simp [Value.oneCell']) (by unfold maxLen; omega) (by omega) (by rw [World.size_alloc]; omega) ?_); intro v' w5 hown2 hgrow _ hat; obtain ⟨a5, cp5, rfl⟩ := own_value hown2; go_loud (obtain ⟨hb5, hfin5⟩ := PlB.snoc (B := w.heap.size) (x := x) HL.out HBP.out HVD2.out HD.out (by omega) (by omega) hW2 HPS.out HX.out hown2 hgrow hat); have hc5 := hb5.cell; have hf5 := hb5.frozen; have HF5 := Lib.hid hfin5; clear hown2 hgrow hat hfin5)
    gi_wp2
    (show ∃ D', _); simp only [World.size_alloc]; exact HF5.out
  case done =>
    rintro K D W hK hDK hB ⟨v, pls, hbp, hown, hps, hvD⟩ hKd
    have hpc := hbp.cell
    obtain ⟨a, cp, rfl⟩ := own_value hown
    have hv : (Value.slice a (flatL [(h, f)]).length cp).ownBlock = none ∨ (Value.slice a (flatL [(h, f)]).length cp).ownBlock ≠ some K := by
      cases hv : (Value.slice a (flatL [(h, f)]).length cp).ownBlock with
      | none => exact .inl rfl
      | some g => exact .inr fun e => hDK ((Option.some.inj e) ▸ hvD g hv)
    have HE : Hid (∀ W', W.grownBy W' (some K) → PsPost w ((flatL [(h, f)]).map Prod.fst) (.returned (.slice a (flatL [(h, f)]).length cp)) W') := Lib.hid fun W' hg => by
      have hb' : Below w.heap.size w W' := hB.grown hg hB.size (fun k e => by have := Option.some.inj e; simp at hK; omega)
      obtain ⟨o1, o2⟩ := own_ps (hown.kept hg hv)
      exact ⟨a, cp, pls, by rw [List.length_map], by rw [List.length_map]; exact o2, o1, hps.below hb', hb'⟩
    clear hbp hown hps hvD hv
    gi_wp2
    refine ⟨by simp, .inl ⟨_, _, rfl, run_takeDeferred hKd, ?_⟩⟩
    refine ⟨_, results_tmp rfl _ _ _, ?_⟩
    exact HE.out _ (grownBy_putObj' W K _)
  case stop =>
    rintro K c pre rest D W hK hDK he hB hx hKd
    exact hx.elim
end Go.Proofs.Ytmjijmkdeblefaa

/- Same. -/
namespace Go.Proofs.Ytmjijmkdeblefaa
open Go.RowKit Go.Shelf LM
set_option linter.unusedVariables false

theorem Collect_any (h : Hd) (f : Fo) (root : Pl) (Bn : Nat) (w : World) (ht : StAt w [root] [(h, f)]) (hok : okL [(h, f)]) (hsz : 1 + f.size ≤ 1099511627776) (hBn : w.cell? ⟨Bn, 0, none⟩ = some (.pointer (some ⟨root.1, root.2, none⟩))) :
    Calls Try.prog 63 #[.func (.func 88) #[] #[.pointer (some ⟨Bn, 0, none⟩)]] w (PsPost w ((flatL [(h, f)]).map Prod.fst)) := by
  have HC := Lib.hid (AppendSeq_any h f root Bn w ht hok hsz hBn)
  clear ht hok hsz hBn
  generalize (flatL [(h, f)]).map Prod.fst = hs at *
  go_enter Try.func63, Try.ntmps63
  go_wp2_with (refine HC.out.mono ?_; rintro e w1 ⟨a, cap, pls, rfl, h1, h2, h3, h4⟩)
  go_ret
  exact ⟨a, cap, pls, rfl, h1, h2, h3, h4⟩

set_option maxRecDepth 100000 in
theorem Same_no (h : Hd) (k : Fo) (q : Option Addr) (cap : Nat) (H : Hd) (K : Fo) (Q : Option Addr) (C : Nat) (w : World) (hh : h.ok) (hs : SlF w q cap k) (hk : k.ok) (hsz : 1 + k.size ≤ 1099511627776)
    (hh' : H.ok) (hs' : SlF w Q C K) (hk' : K.ok) (hsz' : 1 + K.size ≤ 1099511627776) (hno : (riB h k && riB H K) = false) :
    Calls Try.prog 19 #[.agg #[.int .u8 h.op, .string h.name, .int .i64 h.n, .slice q k.len cap], .agg #[.int .u8 H.op, .string H.name, .int .i64 H.n, .slice Q K.len C]] w fun e w' => e = .returned (.bool false) ∧ Below w.heap.size w w' := by
  have HR1 : Hid (∀ w', Below w.heap.size w w' → Calls Try.prog 54 #[.agg #[.int .u8 h.op, .string h.name, .int .i64 h.n, .slice q k.len cap]] w' fun e w'' => e = .returned (.bool (riB h k)) ∧ Below w'.heap.size w' w'') :=
    Lib.hid fun w' hb => right_any h k q cap w' hh (hs.below hb) hk hsz
  have HR2 : Hid (∀ w', Below w.heap.size w w' → Calls Try.prog 54 #[.agg #[.int .u8 H.op, .string H.name, .int .i64 H.n, .slice Q K.len C]] w' fun e w'' => e = .returned (.bool (riB H K)) ∧ Below w'.heap.size w' w'') :=
    Lib.hid fun w' hb => right_any H K Q C w' hh' (hs'.below hb) hk' hsz'
  clear hs hk hs' hk' hh hh' hsz hsz'
  by_cases hr : riB h k = true
  · have hr2 : riB H K = false := by rw [hr] at hno; simpa using hno
    rw [hr] at HR1
    rw [hr2] at HR2
    clear hr hr2 hno
    go_enter Try.func19, Try.ntmps19
    go_wp2_with fail
    refine (HR1.out _ ((below_box _ _).alloc (by simp) _)).mono ?_
    rintro e w1 ⟨rfl, hb1⟩
    obtain ⟨hbw, hA, hB⟩ := two_boxes hb1
    obtain ⟨x0, x1, x2, x3, _⟩ := row4 hB
    have HBW := Lib.hid hbw
    clear hb1 hA hB hbw
    go_wp2_with fail
    refine (HR2.out _ HBW.out).mono ?_
    rintro e w2 ⟨rfl, hb2⟩
    have HB2 := Lib.hid hb2
    clear hb2
    go_wp2
    go_ret
    exact ⟨rfl, below_then HBW.out HB2.out⟩
  · have hr2 : riB h k = false := by simpa using hr
    rw [hr2] at HR1
    clear hr hr2 hno
    go_enter Try.func19, Try.ntmps19
    go_wp2_with fail
    refine (HR1.out _ ((below_box _ _).alloc (by simp) _)).mono ?_
    rintro e w1 ⟨rfl, hb1⟩
    obtain ⟨hbw, hA, hB⟩ := two_boxes hb1
    have HBW := Lib.hid hbw
    clear hb1 hA hB hbw
    go_wp2
    go_ret
    exact ⟨rfl, HBW.out⟩

theorem canT_right {h : Hd} {k : Fo} (hr : rightB h k 1 = true ∨ rightB h k 2 = true) : ∃ s, sh1 (canT h k).1 (canT h k).2 s = true := by
  rcases hr with h1 | h1
  · exact ⟨1, canT_sh (sh1_right h1) (.inl rfl)⟩
  · exact ⟨2, canT_sh (sh1_right h1) (.inr rfl)⟩
theorem st_box {w w' : World} {b : Nat} {h : Hd} {k : Fo} {q : Option Addr} {c : Nat} (hb : w.heap[b]? = some (.cells #[.int .u8 h.op, .string h.name, .int .i64 h.n, .slice q k.len c] 25 (0, 0))) (hs : SlF w q c k) (hw : Below w.heap.size w w') : StAt w' [(b, 0)] [(h, k)] := by
  have hb' := (hw.block b (Array.getElem?_eq_some_iff.1 hb).1).trans hb
  obtain ⟨x0, x1, x2, x3, _⟩ := row4 hb'
  exact ⟨⟨q, c, ⟨x0, x1, x2, x3, hs.lc, hs.cm⟩, hs.below hw⟩, trivial⟩
theorem box_cell (w : World) (v : Value) : (w.alloc (.cells #[v] 64)).cell? ⟨w.heap.size, 0, none⟩ = some v := (Boxed.new w 64 v).cell

/-- Behind the two canonical forms. -/
structure SmB (w : World) (T T' : Hd × Fo) (q : Option Addr) (c : Nat) (q' : Option Addr) (c' : Nat) (W : World) : Prop where
  b0 : W.heap[w.heap.size]? = some (.cells #[.int .u8 T.1.op, .string T.1.name, .int .i64 T.1.n, .slice q T.2.len c] 25 (0, 0))
  b1 : W.heap[w.heap.size + 1]? = some (.cells #[.int .u8 T'.1.op, .string T'.1.name, .int .i64 T'.1.n, .slice q' T'.2.len c'] 25 (0, 0))
  s0 : SlF W q c T.2
  s1 : SlF W q' c' T'.2
  below : Below w.heap.size w W
def SameMid (w : World) (T T' : Hd × Fo) (e : Exit) (a : Act) (W : World) : Prop :=
  e = .normal ∧ ∃ (q q' : Option Addr) (c c' : Nat) (u0 u1 u5 u6 u7 u8 u9 u10 u11 u12 u13 u14 u15 u16 : Value),
    a = { tmps := #[u0, u1, .pointer (some ⟨w.heap.size, 0, none⟩), .pointer (some ⟨w.heap.size + 1, 0, none⟩), .bool false, u5, u6, u7, u8, u9, u10, u11, u12, u13, u14, u15, u16, undef, undef, undef, undef, undef], defers := [] } ∧ SmB w T T' q c q' c' W

theorem sm_end {w w2 w3 w4 : World} {T T' : Hd × Fo} {q1 q2 : Option Addr} {c1 c2 : Nat} {F1 F2 : List Nat} {a0 a1 a2 a3 b0 b1 b2 b3 : Value} (hbw : Below w.heap.size w w2) (hA : w2.heap[w.heap.size]? = some (.cells #[a0, a1, a2, a3] 25 (0, 0))) (hB : w2.heap[w.heap.size + 1]? = some (.cells #[b0, b1, b2, b3] 25 (0, 0)))
    (h3 : Below w2.heap.size w2 w3) (o1 : OwnF w3 q1 T.2 F1) (hF1 : ∀ c ∈ F1, w2.heap.size ≤ c ∧ c < w3.heap.size) (l1 : T.2.len ≤ c1) (m1 : c1 ≤ maxLen)
    (h4 : Below w3.heap.size w3 w4) (o2 : OwnF w4 q2 T'.2 F2) (hF2 : ∀ c ∈ F2, w3.heap.size ≤ c ∧ c < w4.heap.size) (l2 : T'.2.len ≤ c2) (m2 : c2 ≤ maxLen) :
    SmB w T T' q1 c1 q2 c2 (World.set4 (World.set4 w4 w.heap.size (.int .u8 T.1.op) (.string T.1.name) (.int .i64 T.1.n) (.slice q1 T.2.len c1)) (w.heap.size + 1) (.int .u8 T'.1.op) (.string T'.1.name) (.int .i64 T'.1.n) (.slice q2 T'.2.len c2)) := by
  have lA := (Array.getElem?_eq_some_iff.1 hA).1
  have lB := (Array.getElem?_eq_some_iff.1 hB).1
  have s3 := h3.size
  have s4 := h4.size
  have hA4 : w4.heap[w.heap.size]? = _ := (h4.block _ (by omega)).trans ((h3.block _ lA).trans hA)
  have hB4 : w4.heap[w.heap.size + 1]? = _ := (h4.block _ (by omega)).trans ((h3.block _ lB).trans hB)
  have g1 := set4_grown w4 w.heap.size (.int .u8 T.1.op) (.string T.1.name) (.int .i64 T.1.n) (.slice q1 T.2.len c1)
  have r1 := set4_row hA4 (.int .u8 T.1.op) (.string T.1.name) (.int .i64 T.1.n) (.slice q1 T.2.len c1)
  generalize World.set4 w4 w.heap.size (.int .u8 T.1.op) (.string T.1.name) (.int .i64 T.1.n) (.slice q1 T.2.len c1) = w5 at *
  have z5 := g1.size
  have hB5 : w5.heap[w.heap.size + 1]? = _ := (g1.block _ (by omega) (fun e => by have := Option.some.inj e; omega)).trans hB4
  have g2 := set4_grown w5 (w.heap.size + 1) (.int .u8 T'.1.op) (.string T'.1.name) (.int .i64 T'.1.n) (.slice q2 T'.2.len c2)
  have r2 := set4_row hB5 (.int .u8 T'.1.op) (.string T'.1.name) (.int .i64 T'.1.n) (.slice q2 T'.2.len c2)
  generalize World.set4 w5 (w.heap.size + 1) (.int .u8 T'.1.op) (.string T'.1.name) (.int .i64 T'.1.n) (.slice q2 T'.2.len c2) = w6 at *
  have z6 := g2.size
  have kp : ∀ c, w2.heap.size ≤ c → c < w4.heap.size → w6.heap[c]? = w4.heap[c]? := fun c x y =>
    (g2.block c (by omega) (fun e => by have := Option.some.inj e; omega)).trans (g1.block c y (fun e => by have := Option.some.inj e; omega))
  refine ⟨(g2.block _ (by omega) (fun e => by have := Option.some.inj e; omega)).trans r1, r2, ?_, ?_, ?_⟩
  · exact (o1.keep fun c hc => (kp c (hF1 c hc).1 (by have := (hF1 c hc).2; omega)).trans (h4.block c (hF1 c hc).2)).slF l1 m1
  · exact (o2.keep fun c hc => kp c (by have := (hF2 c hc).1; omega) (hF2 c hc).2).slF l2 m2
  · have b1 : Below w.heap.size w w4 := hbw.trans ((h3.trans (h4.mono s3)).mono hbw.size)
    exact (b1.grown g1 b1.size (fun r e => by have := Option.some.inj e; omega)).grown g2 (by omega) (fun r e => by have := Option.some.inj e; omega)

theorem below_of_drew {w w' : World} (h : Below w.drew.heap.size w.drew w') : Below w.heap.size w w' := ((Below.refl _ _).drew).trans h

set_option maxRecDepth 100000 in
set_option maxHeartbeats 600000 in
theorem Same_yes (h : Hd) (k : Fo) (q : Option Addr) (cap : Nat) (H : Hd) (K : Fo) (Q : Option Addr) (C : Nat) (w : World) (hh : h.ok) (hs : SlF w q cap k) (hk : k.ok) (hsz : 1 + k.size ≤ 1099511627776)
    (hh' : H.ok) (hs' : SlF w Q C K) (hk' : K.ok) (hsz' : 1 + K.size ≤ 1099511627776) (hr1 : riB h k = true) (hr2 : riB H K = true) :
    Calls Try.prog 19 #[.agg #[.int .u8 h.op, .string h.name, .int .i64 h.n, .slice q k.len cap], .agg #[.int .u8 H.op, .string H.name, .int .i64 H.n, .slice Q K.len C]] w fun e w' => e = .returned (.bool (alk (canT h k) (canT H K))) ∧ Below w.heap.size w w' := by
  have HR1 : Hid (∀ w', Below w.heap.size w w' → Calls Try.prog 54 #[.agg #[.int .u8 h.op, .string h.name, .int .i64 h.n, .slice q k.len cap]] w' fun e w'' => e = .returned (.bool true) ∧ Below w'.heap.size w' w'') :=
    Lib.hid fun w' hb => by rw [← hr1]; exact right_any h k q cap w' hh (hs.below hb) hk hsz
  have HR2 : Hid (∀ w', Below w.heap.size w w' → Calls Try.prog 54 #[.agg #[.int .u8 H.op, .string H.name, .int .i64 H.n, .slice Q K.len C]] w' fun e w'' => e = .returned (.bool true) ∧ Below w'.heap.size w' w'') :=
    Lib.hid fun w' hb => by rw [← hr2]; exact right_any H K Q C w' hh' (hs'.below hb) hk' hsz'
  have k1 : rightB h k 1 = true ∨ rightB h k 2 = true := by unfold riB at hr1; simpa using hr1
  have k2 : rightB H K 1 = true ∨ rightB H K 2 = true := by unfold riB at hr2; simpa using hr2
  obtain ⟨hro, s, hsh⟩ := can_of k1
  obtain ⟨hro', s', hsh'⟩ := can_of k2
  have HC1 := Lib.hid fun w' (hb : Below w.heap.size w w') => canon_any h k q cap w' s hh (hs.below hb) hk hsz hro hsh
  have HC2 := Lib.hid fun w' (hb : Below w.heap.size w w') => canon_any H K Q C w' s' hh' (hs'.below hb) hk' hsz' hro' hsh'
  have HZ1 : Hid (1 + (canT h k).2.size ≤ 1099511627776) := Lib.hid (by have := canT_size h k; omega)
  have HZ2 : Hid (1 + (canT H K).2.size ≤ 1099511627776) := Lib.hid (by have := canT_size H K; omega)
  have HP := Lib.hid parts_any
  have HK1 : Hid (okL [((canT h k).1, (canT h k).2)]) := Lib.hid (by intro t ht; simp at ht; subst ht; exact canT_ok hh hk)
  have HK2 : Hid (okL [((canT H K).1, (canT H K).2)]) := Lib.hid (by intro t ht; simp at ht; subst ht; exact canT_ok hh' hk')
  have HALK : Hid (∀ r : Bool, (r = true ↔ (flatL [((canT h k).1, (canT h k).2)]).map Prod.fst = (flatL [((canT H K).1, (canT H K).2)]).map Prod.fst) → r = alk (canT h k) (canT H K)) := Lib.hid fun r hr => by
    obtain ⟨s1, g1⟩ := canT_right k1
    obtain ⟨s2, g2⟩ := canT_right k2
    rw [flatL_one, flatL_one] at hr
    rw [Bool.eq_iff_iff, hr]
    simp only [alk, decide_eq_true_eq]
    exact ⟨fun e => heads_tree g1 g2 e, fun e => by rw [e]⟩
  clear hs hk hs' hk' hh hh' hsz hsz' hr1 hr2 hro hro' hsh hsh' k1 k2
  generalize canT h k = T at *
  generalize canT H K = T' at *
  have HX1 := Lib.hid fun root Bn w' ht hb => Collect_any T.1 T.2 root Bn w' ht HK1.out HZ1.out hb
  have HX2 := Lib.hid fun root Bn w' ht hb => Collect_any T'.1 T'.2 root Bn w' ht HK2.out HZ2.out hb
  have HN1 : Hid (((flatL [(T.1, T.2)]).map Prod.fst).length ≤ 1099511627776) := Lib.hid (by rw [List.length_map, length_one]; exact HZ1.out)
  have HN2 : Hid (((flatL [(T'.1, T'.2)]).map Prod.fst).length ≤ 1099511627776) := Lib.hid (by rw [List.length_map, length_one]; exact HZ2.out)
  clear HZ1 HZ2 HK1 HK2
  generalize (flatL [(T.1, T.2)]).map Prod.fst = hs1 at *
  generalize (flatL [(T'.1, T'.2)]).map Prod.fst = hs2 at *
  go_enter Try.func19, Try.ntmps19
  go_wp2_with fail
  refine (HR1.out _ ((below_box _ _).alloc (by simp) _)).mono ?_
  rintro e w1 ⟨rfl, hb1⟩
  obtain ⟨hbw, hA, hB⟩ := two_boxes hb1
  obtain ⟨x0, x1, x2, x3, _⟩ := row4 hB
  have HBW := Lib.hid hbw
  have HA := Lib.hid hA
  have HB := Lib.hid hB
  clear hb1 hA hB hbw
  go_wp2_with fail
  refine (HR2.out _ HBW.out).mono ?_
  rintro e w2 ⟨rfl, hb2⟩
  have hb0 := below_then HBW.out hb2
  have hA2 := (hb2.block _ (Array.getElem?_eq_some_iff.1 HA.out).1).trans HA.out
  have hB2 := (hb2.block _ (Array.getElem?_eq_some_iff.1 HB.out).1).trans HB.out
  obtain ⟨x0, x1, x2, x3, _⟩ := row4 hA2
  obtain ⟨y0, y1, y2, y3, _⟩ := row4 hB2
  have HBW2 := Lib.hid hb0
  have HA2 := Lib.hid hA2
  have HB2 := Lib.hid hB2
  clear hb2 hb0 hA2 hB2
  go_wp2
  refine wp_mono (Q := SameMid w T T') ?_ ?_
  · go_region_with (first
      | (go_at_call_of 55 (Value.int .u8 h.op); refine (HC1.out _ (HBW2.out.drew)).mono ?_; rintro e w3 ⟨q1, c1, F1, rfl, l1, m1, o1, n1, hF1, hb1⟩; have hb3 := below_of_drew hb1; obtain ⟨p0, p1, p2, p3, _⟩ := row4 ((hb3.block _ (Array.getElem?_eq_some_iff.1 HB2.out).1).trans HB2.out); have H3 := Lib.hid hb3; have HF1 := Lib.hid hF1; have HO1 := Lib.hid o1; clear hb1 hb3 hF1 o1 n1)
      | (go_at_call_of 55 (Value.int .u8 H.op); refine (HC2.out _ (below_then HBW2.out (by first | exact H3.out | exact H3.out.drew))).mono ?_; rintro e w4 ⟨q2, c2, F2, rfl, l2, m2, o2, n2, hF2, hb2⟩; have hb4 : Below w3.heap.size w3 w4 := (by first | exact hb2 | exact below_of_drew hb2); have hAA := (hb4.block _ (Nat.lt_of_lt_of_le (Array.getElem?_eq_some_iff.1 HA2.out).1 H3.out.size)).trans ((H3.out.block _ (Array.getElem?_eq_some_iff.1 HA2.out).1).trans HA2.out); have hBB := (hb4.block _ (Nat.lt_of_lt_of_le (Array.getElem?_eq_some_iff.1 HB2.out).1 H3.out.size)).trans ((H3.out.block _ (Array.getElem?_eq_some_iff.1 HB2.out).1).trans HB2.out); obtain ⟨r0, r1, r2, r3, r4, r5, r6, r7⟩ := row4 hAA; obtain ⟨t0, t1, t2, t3, t4, t5, t6, t7⟩ := row4 hBB; have HEND := Lib.hid (sm_end HBW2.out HA2.out HB2.out H3.out HO1.out HF1.out l1 m1 hb4 o2 hF2 l2 m2); clear hb2 hb4 hAA hBB o2 n2 hF2 p0 p1 p2 p3))
    all_goals (exact ⟨rfl, q1, q2, c1, c2, _, _, _, _, _, _, _, _, _, _, _, _, _, _, rfl, HEND.out⟩)
  · rintro e a W ⟨rfl, q1, q2, c1, c2, u0, u1, u5, u6, u7, u8, u9, u10, u11, u12, u13, u14, u15, u16, rfl, hM⟩
    have HM := Lib.hid hM
    clear hM HBW HA HB HR1 HR2 HC1 HC2 HBW2 HA2 HB2 x0 x1 x2 x3 y0 y1 y2 y3
    have HCO1 := Lib.hid (HX1.out (w.heap.size, 0) W.heap.size (W.alloc (.cells #[.pointer (some ⟨w.heap.size, 0, none⟩)] 64)) (st_box (HM.out.b0) HM.out.s0 (below_box _ _)) (box_cell _ _))
    go_wp2_with fail
    refine (HP.out _ _).mono ?_
    rintro e w' ⟨rfl, rfl⟩
    go_wp2_with fail
    refine HCO1.out.mono ?_
    rintro e w3 ⟨a1, cp1, pl1, rfl, hc1, hp1, hh1, hb1⟩
    have hb3 : Below W.heap.size W w3 := below_then (below_box _ _) hb1
    have HB3 := Lib.hid hb3
    have HP1 := Lib.hid hp1
    have HH1 := Lib.hid hh1
    have HCO2 := Lib.hid (HX2.out (w.heap.size + 1, 0) w3.heap.size (w3.alloc (.cells #[.pointer (some ⟨w.heap.size + 1, 0, none⟩)] 64)) (st_box (HM.out.b1) HM.out.s1 (hb3.trans ((below_box _ _).mono hb3.size))) (box_cell _ _))
    clear hb1 hp1 hh1 hb3
    go_wp2_with fail
    refine (HP.out _ _).mono ?_
    rintro e w' ⟨rfl, rfl⟩
    go_wp2_with fail
    refine HCO2.out.mono ?_
    rintro e w5 ⟨a2, cp2, pl2, rfl, hc2, hp2, hh2, hb2⟩
    have hb5 : Below w3.heap.size w3 w5 := below_then (below_box _ _) hb2
    have HB5 := Lib.hid hb5
    have HEQ : Hid (Calls Try.prog 62 #[.slice a1 hs1.length cp1, .slice a2 hs2.length cp2, .func (.func 64) #[] #[]] w5 fun e w' => ∃ r, e = .returned (.bool r) ∧ (r = true ↔ hs1 = hs2) ∧ Below w5.heap.size w5 w') := Lib.hid (by
      have e1 := HH1.out.len
      have e2 := hh2.len
      have := eqf_any a1 a2 cp1 cp2 pl1 pl2 _ _ w5 (HP1.out.below hb5) hp2 (HH1.out.below hb5) hh2 (by rw [e1]; exact HN1.out) (by rw [e2]; exact HN2.out) (by rw [e1]; exact hc1) (by rw [e2]; exact hc2)
      rw [e1, e2] at this
      exact this)
    clear hb2 hp2 hh2 hb5
    go_wp2_with fail
    refine HEQ.out.mono ?_
    rintro e w6 ⟨r, rfl, hr, hb6⟩
    have HR := Lib.hid (HALK.out r hr)
    have HB6 := Lib.hid hb6
    clear hr hb6
    go_wp2_with fail
    go_ret
    exact ⟨ret_bool HR.out, HM.out.below.trans ((HB3.out.trans ((HB5.out.trans (HB6.out.mono HB5.out.size)).mono HB3.out.size)).mono HM.out.below.size)⟩
end Go.Proofs.Ytmjijmkdeblefaa

/- The document's Of, with what its answer hangs on. -/
namespace Go.Proofs.Ytmjijmkdeblefaa
open Go.RowKit LM
set_option linter.unusedVariables false

/-- A tree in blocks that S names: told by what agrees there. -/
def DpS (S : Nat → Prop) (w : World) (q : Option Addr) (c : Nat) (k : Fo) : Prop := ∀ w'' : World, (∀ b, S b → b < w.heap.size → w''.heap[b]? = w.heap[b]?) → SlF w'' q c k
theorem DpS.grown {S : Nat → Prop} {w w' : World} {q : Option Addr} {c : Nat} {k : Fo} (h : DpS S w q c k) (hs : w.heap.size ≤ w'.heap.size) (he : ∀ b, S b → b < w.heap.size → w'.heap[b]? = w.heap[b]?) : DpS S w' q c k := fun w'' h2 =>
  h w'' (fun b hS hb => (h2 b hS (by omega)).trans (he b hS hb))
theorem DpS.below {S : Nat → Prop} {w w' : World} {q : Option Addr} {c : Nat} {k : Fo} (h : DpS S w q c k) (hb : Below w.heap.size w w') : DpS S w' q c k := h.grown hb.size (fun b _ hl => hb.block b hl)
theorem DpS.mono {S S' : Nat → Prop} {w : World} {q : Option Addr} {c : Nat} {k : Fo} (h : DpS S w q c k) (hs : ∀ b, S b → S' b) : DpS S' w q c k := fun w'' h2 => h w'' (fun b hS hb => h2 b (hs b hS) hb)
theorem DpS.here {S : Nat → Prop} {w : World} {q : Option Addr} {c : Nat} {k : Fo} (h : DpS S w q c k) : SlF w q c k := h w (fun _ _ _ => rfl)
theorem SlF.dep {w : World} {q : Option Addr} {c : Nat} {k : Fo} (h : SlF w q c k) : DpS (fun _ => True) w q c k := fun w'' he => h.agree (fun b hb => he b trivial hb)
theorem DpS.nil {S : Nat → Prop} {w : World} {q : Option Addr} {c : Nat} (hc : c ≤ maxLen) : DpS S w q c .nil := fun _ _ => ⟨Nat.zero_le _, hc, fun h => absurd h (Nat.lt_irrefl _)⟩
def AgS (S : Nat → Prop) (N n : Nat) (wr : World) (q : Option Addr) (c : Nat) (k : Fo) : Prop := ∀ w'' : World, (∀ b, ((S b ∧ b < N) ∨ n ≤ b) → b < wr.heap.size → w''.heap[b]? = wr.heap[b]?) → SlF w'' q c k
theorem AgS.field {S : Nat → Prop} {w : World} {n : Nat} {wr w2 : World} {q0 q1 : Option Addr} {c0 c1 g : Nat} {h0 h1 : Hd} {k0 k1 : Fo} (hw : Below w.heap.size w wr) (h : AgS S w.heap.size n wr q1 c1 k1) (h2 : Below wr.heap.size wr w2) (s0 : DpS S w q0 c0 k0)
    (hg : w2.heap[g]? = some (.cells #[.int .u8 h0.op, .string h0.name, .int .i64 h0.n, .slice q0 k0.len c0, .int .u8 h1.op, .string h1.name, .int .i64 h1.n, .slice q1 k1.len c1] 25 (0, 0))) (hn : n ≤ g) : AgS S w.heap.size n w2 (some ⟨g, 0, none⟩) 2 (.cons h0 k0 (.cons h1 k1 .nil)) := fun w'' he => by
  have hs := h2.size
  refine two_fo ((he g (.inr hn) (Array.getElem?_eq_some_iff.1 hg).1).trans hg) (s0 w'' (fun b hS hb => ?_)) (h w'' (fun b hb hlt => (he b hb (by omega)).trans (h2.block b hlt)))
  have := hw.size
  rw [he b (.inl ⟨hS, hb⟩) (by omega), h2.block b (by omega), hw.block b hb]
theorem AgS.set {S : Nat → Prop} {N n : Nat} {wr w' : World} {q : Option Addr} {c : Nat} {k : Fo} (h : AgS S N n wr q c k) {r : Nat} (hg : wr.grownBy w' (some r)) (h1 : N ≤ r) (h2 : r < n) : AgS S N n w' q c k := fun w'' he =>
  h w'' (fun b hb hlt => (he b hb (Nat.lt_of_lt_of_le hlt hg.size)).trans (hg.block b hlt (fun e => by have := Option.some.inj e; omega)))
/-- A tree comes back, with what it hangs on. -/
def OfPost (S : Nat → Prop) (w : World) (T : Hd × Fo) (e : Ending) (w' : World) : Prop :=
  ∃ q cap, e = .returned (.agg #[.int .u8 T.1.op, .string T.1.name, .int .i64 T.1.n, .slice q T.2.len cap]) ∧ DpS (fun b => S b ∨ w.heap.size ≤ b) w' q cap T.2 ∧ Below w.heap.size w w'

set_option maxRecDepth 100000 in
set_option maxHeartbeats 1000000 in
theorem Of_dep (S : Nat → Prop) (fs : List Fld) (q : Option Addr) (cap : Nat) (th : Hd) (tk : Fo) (tq : Option Addr) (tc : Nat) (w : World) (hf : FdSl w q cap fs) (hs : DpS S w tq tc tk) (hm : ∀ f ∈ fs, DpS S w f.q f.cap f.k) (hbd : tk.len ≤ tc ∧ tc ≤ maxLen) (hl : fs.length ≤ 1099511627776) :
    Calls Try.prog 67 #[.slice q fs.length cap, .agg #[.int .u8 th.op, .string th.name, .int .i64 th.n, .slice tq tk.len tc]] w (OfPost S w (rowT (th, tk) (fs.map Fld.key))) := by
  have HF := Lib.hid hf
  have HS := Lib.hid hs
  have HM := Lib.hid hm
  have HFL := Lib.hid Field_at
  have hst : ∀ o1 : Obj, (((w.alloc (.cells #[.int .u8 th.op, .string th.name, .int .i64 th.n, .slice tq tk.len tc] 25)).alloc (.cells #[.int .u8 0, .string ⟨#[]⟩, .int .i64 0, .slice none 0 0] 25)).alloc (.cells #[.int .u8 th.op, .string th.name, .int .i64 th.n, .slice tq tk.len tc] 25)).heap[w.heap.size + 1]? = some (.cells #[.int .u8 0, .string ⟨#[]⟩, .int .i64 0, .slice none 0 0] 25 (0, 0)) ∧
      (((w.alloc (.cells #[.int .u8 th.op, .string th.name, .int .i64 th.n, .slice tq tk.len tc] 25)).alloc (.cells #[.int .u8 0, .string ⟨#[]⟩, .int .i64 0, .slice none 0 0] 25)).alloc (.cells #[.int .u8 th.op, .string th.name, .int .i64 th.n, .slice tq tk.len tc] 25)).heap[w.heap.size + 1 + 1]? = some (.cells #[.int .u8 th.op, .string th.name, .int .i64 th.n, .slice tq tk.len tc] 25 (0, 0)) ∧
      Below w.heap.size w (((w.alloc (.cells #[.int .u8 th.op, .string th.name, .int .i64 th.n, .slice tq tk.len tc] 25)).alloc (.cells #[.int .u8 0, .string ⟨#[]⟩, .int .i64 0, .slice none 0 0] 25)).alloc (.cells #[.int .u8 th.op, .string th.name, .int .i64 th.n, .slice tq tk.len tc] 25)) := fun _ => by
    have e2 := World.alloc_heap_new (w.alloc (.cells #[.int .u8 th.op, .string th.name, .int .i64 th.n, .slice tq tk.len tc] 25)) (.cells #[.int .u8 0, .string ⟨#[]⟩, .int .i64 0, .slice none 0 0] 25)
    have e3 := World.alloc_heap_new ((w.alloc (.cells #[.int .u8 th.op, .string th.name, .int .i64 th.n, .slice tq tk.len tc] 25)).alloc (.cells #[.int .u8 0, .string ⟨#[]⟩, .int .i64 0, .slice none 0 0] 25)) (.cells #[.int .u8 th.op, .string th.name, .int .i64 th.n, .slice tq tk.len tc] 25)
    simp only [World.size_alloc] at e2 e3
    exact ⟨((below_box _ _).block _ (by simp)).trans e2, e3, ((below_box _ _).alloc (by simp) _).alloc (by simp; omega) _⟩
  have HST := Lib.hid (hst (.cells #[] 0))
  clear hf hs hm hst
  generalize hLd : fs.length = L at *
  have HL := Lib.hid hLd
  clear hLd
  go_enter Try.func67, Try.ntmps67
  go_wp2
  go_loopw [6] (fun i wr => ∃ (k : Nat) (h : Hd) (kk : Fo) (q1 : Option Addr) (c : Nat), k ≤ L ∧ i = .int .i64 ((k : Int) - 1) ∧ Hid ((h, kk) = rowT (th, tk) ((fs.drop k).map Fld.key) ∧ AgS S w.heap.size (w.heap.size + 3) wr q1 c kk) ∧
    wr.heap[w.heap.size + 1 + 1]? = some (.cells #[.int .u8 h.op, .string h.name, .int .i64 h.n, .slice q1 kk.len c] 25 (0, 0)) ∧ wr.heap[w.heap.size + 1]? = some (.cells #[.int .u8 0, .string ⟨#[]⟩, .int .i64 0, .slice none 0 0] 25 (0, 0)) ∧ Below w.heap.size w wr) (fun i _ => (intOf i + 1).toNat)
  case atStart => exact ⟨L, th, tk, tq, tc, Nat.le_refl _, rfl, Lib.hid ⟨by rw [List.drop_of_length_le (by rw [HL.out]; exact Nat.le_refl _)]; rfl, fun w'' he => HS.out w'' (fun b hS hb => by rw [he b (.inl ⟨hS, hb⟩) (by simp; omega), HST.out.2.2.block b hb])⟩, HST.out.2.1, HST.out.1, HST.out.2.2⟩
  case round =>
    obtain ⟨k, h, kk, q1, c, hkL, rfl, HR, hb, hr, hbl⟩ := hrel
    obtain ⟨t0, t1, t2, t3, u0, u1, u2, u3⟩ := row4 hb
    obtain ⟨y0, y1, y2, y3, z0, z1, z2, z3⟩ := row4 hr
    have HB := Lib.hid hb
    have HRS := Lib.hid hr
    have HBL := Lib.hid hbl
    have hwr : w.heap.size + 1 + 1 < wr.heap.size := (Array.getElem?_eq_some_iff.1 hb).1
    clear hb hr hbl
    by_cases hk0 : k = 0
    · have HE := Lib.hid hk0
      have ei : (k : Int) - 1 = -1 := by omega
      rw [ei]
      clear hk0 ei
      go_wp2
      have hR := HR.out
      rw [HE.out, List.drop_zero] at hR
      have hg := set4_grown wr (w.heap.size + 1) (.int .u8 h.op) (.string h.name) (.int .i64 h.n) (.slice q1 kk.len c)
      refine bodyPost_ret (v := .agg #[.int .u8 h.op, .string h.name, .int .i64 h.n, .slice q1 kk.len c]) (by simp [results, Try.results67, go_sem, y0, y1, y2, y3]) rfl ?_
      rw [← hR.1]
      exact ⟨_, _, rfl, (fun w'' he => (hR.2.set hg (by omega) (by omega)) w'' (fun b hb hlt => he b (hb.imp (fun h => h.1) (fun h => by omega)) hlt)), HBL.out.grown hg HBL.out.size (fun r e => by have := Option.some.inj e; omega)⟩
    · obtain ⟨j, rfl⟩ : ∃ j, k = j + 1 := ⟨k - 1, by omega⟩
      have hjf : j < fs.length := by rw [HL.out]; omega
      obtain ⟨b, o, rfl, hbw, hcs⟩ := HF.out.at_ (by omega)
      obtain ⟨c0, c1, c2, c3, c4⟩ := hcs j hjf
      have kc : ∀ x, wr.cell? ⟨b, x, none⟩ = w.cell? ⟨b, x, none⟩ := fun x => HBL.out.cell (p := ⟨b, x, none⟩) hbw
      rw [← kc] at c0 c1 c2 c3 c4
      have hfm := HM.out fs[j] (List.getElem_mem _)
      have hdrop : (fs.drop j).map Fld.key = fs[j].key :: (fs.drop (j + 1)).map Fld.key := by rw [List.drop_eq_getElem_cons hjf]; rfl
      have ej : ((j + 1 : Nat) : Int) - 1 = (j : Int) := by omega
      have ej2 : (j : Int) + 1 - 1 = (j : Int) := by omega
      have hjL : (j : Int) < (L : Int) := by omega
      have hj0 : (0 : Int) ≤ (j : Int) := by omega
      have hd : decide ((j : Int) ≥ 0) = true := decide_eq_true hj0
      have HD := Lib.hid hdrop
      have HFM := Lib.hid hfm
      clear kc hcs hdrop hfm hk0
      generalize fs[j] = f at *
      rw [ej]
      have HC := Lib.hid fun w' => HFL.out f.name f.h f.k f.q f.cap h kk q1 c w'
      go_wp2
      go_still_tail 11, (by kernel_rfl)
      change wpList _ _ _ _ _ wr.drew
      go_wp2_with (go_at_call 50; refine (HC.out _).mono ?_; rintro e w2 ⟨g, rfl, hg1, hg2, hb2⟩; have hrow2 := (hb2.block (w.heap.size + 1 + 1) hwr).trans HB.out; have hres2 := (hb2.block (w.heap.size + 1) (by show _ < wr.heap.size; omega)).trans HRS.out; obtain ⟨s0, s1, s2, s3, v0, v1, v2, v3⟩ := row4 hrow2; have HROW := Lib.hid hrow2; have HRES := Lib.hid hres2; have HG1 := Lib.hid hg1; have HG2 := Lib.hid hg2; have HB2 := Lib.hid hb2; clear hg1 hg2 hb2 hrow2 hres2)
      go_roundw
      case measure => simp [intOf]
      case rel =>
        have hg := set4_grown w2 (w.heap.size + 1 + 1) (.int .u8 11) (.string f.name) (.int .i64 0) (.slice (some ⟨g, 0, none⟩) 2 2)
        have hb2' : Below wr.heap.size wr w2 := ((Below.refl wr.heap.size wr).drew).trans HB2.out
        have hgw : wr.heap.size ≤ g := HG1.out
        have hbw2 : Below w.heap.size w w2 := HBL.out.trans (hb2'.mono HBL.out.size)
        have hag := AgS.field HBL.out HR.out.2 hb2' HFM.out HG2.out (by omega)
        refine ⟨j, ⟨11, f.name, 0⟩, .cons f.h f.k (.cons h kk .nil), some ⟨g, 0, none⟩, 2, by omega, rfl, Lib.hid ⟨?_, hag.set hg (by omega) (by omega)⟩, set4_row HROW.out _ _ _ _, (hg.block _ (Array.getElem?_eq_some_iff.1 HRES.out).1 (fun e => by have := Option.some.inj e; omega)).trans HRES.out, hbw2.grown hg hbw2.size (fun r e => by have := Option.some.inj e; omega)⟩
        rw [HD.out, show rowT (th, tk) (f.key :: (fs.drop (j + 1)).map Fld.key) = (⟨11, f.name, 0⟩, .cons f.h f.k (.cons (rowT (th, tk) ((fs.drop (j + 1)).map Fld.key)).1 (rowT (th, tk) ((fs.drop (j + 1)).map Fld.key)).2 .nil)) from rfl, ← HR.out.1]
end Go.Proofs.Ytmjijmkdeblefaa

/- Trees that are made of a tree's Kids, one by one: what a loop keeps that appends them. -/
namespace Go.Proofs.Ytmjijmkdeblefaa
open Go.RowKit LM
set_option linter.unusedVariables false

def mapG (G : Hd → Fo → Hd × Fo) : Fo → Fo
  | .nil => .nil
  | .cons h k r => .cons (G h k).1 (G h k).2 (mapG G r)
theorem mapG_canT (f : Fo) : mapG canT f = canM f := by
  induction f with
  | nil => rfl
  | cons h k r _ ih => simp only [mapG, canM, ih]
theorem mapG_len (G : Hd → Fo → Hd × Fo) (f : Fo) : (mapG G f).len = f.len := by
  induction f with
  | nil => rfl
  | cons h k r _ ih => simp only [mapG, Fo.len, ih]
theorem mapG_app (G : Hd → Fo → Hd × Fo) (f g : Fo) : mapG G (f.app g) = (mapG G f).app (mapG G g) := by
  induction f with
  | nil => rfl
  | cons h k r _ ih => simp only [mapG, Fo.app, ih]

/-- A tree of new memory comes back. -/
def CnPost (w : World) (T : Hd × Fo) (e : Ending) (w' : World) : Prop :=
  ∃ q cap, e = .returned (.agg #[.int .u8 T.1.op, .string T.1.name, .int .i64 T.1.n, .slice q T.2.len cap]) ∧ DpS (fun b => w.heap.size ≤ b) w' q cap T.2 ∧ Below w.heap.size w w'

/-- Where the boxes lie. -/
structure MpS (w : World) (bt br bo base : Nat) : Prop where
  t0 : w.heap.size ≤ bt
  t1 : bt < base
  r0 : w.heap.size ≤ br
  r1 : br < base
  o0 : w.heap.size ≤ bo
  o1 : bo < base
  tr : bt ≠ br
  tO : bt ≠ bo
  ro : br ≠ bo

/-- What is kept along the Kids. -/
structure MpI (w : World) (h ho : Hd) (k : Fo) (q : Option Addr) (L cap : Nat) (G : Hd → Fo → Hd × Fo) (bt br bo base : Nat) (j : Nat) (v : Value) (wr : World) : Prop where
  le : j ≤ L
  own : ∃ cs, wr.ownsRow base 25 4 v j cs ∧ ∀ w'' : World, (∀ b, base ≤ b → b < wr.heap.size → v.ownBlock ≠ some b → w''.heap[b]? = wr.heap[b]?) → CellsOf w'' (mapG G (k.take j)) cs
  bt : wr.heap[bt]? = some (.cells #[.int .u8 h.op, .string h.name, .int .i64 h.n, .slice q L cap] 25 (0, 0))
  br : wr.heap[br]? = some (.cells #[.int .u8 0, .string ⟨#[]⟩, .int .i64 0, .slice none 0 0] 25 (0, 0))
  bo : wr.heap[bo]? = some (.cells #[.int .u8 ho.op, .string ho.name, .int .i64 ho.n, v] 25 (0, 0))
  below : Below w.heap.size w wr
  room : base ≤ wr.heap.size

theorem MpI.start (w : World) (h ho : Hd) (k : Fo) (q : Option Addr) (cap : Nat) (G : Hd → Fo → Hd × Fo) :
    MpS w w.heap.size (w.heap.size + 1) (w.heap.size + 2) (w.heap.size + 3) ∧ MpI w h ho k q k.len cap G w.heap.size (w.heap.size + 1) (w.heap.size + 2) (w.heap.size + 3) 0 (.slice none 0 0) (((w.alloc (.cells #[.int .u8 h.op, .string h.name, .int .i64 h.n, .slice q k.len cap] 25)).alloc (.cells #[.int .u8 0, .string ⟨#[]⟩, .int .i64 0, .slice none 0 0] 25)).alloc (.cells #[.int .u8 ho.op, .string ho.name, .int .i64 ho.n, .slice none 0 0] 25)) := by
  have e1 := World.alloc_heap_new w (.cells #[.int .u8 h.op, .string h.name, .int .i64 h.n, .slice q k.len cap] 25)
  have e2 := World.alloc_heap_new (w.alloc (.cells #[.int .u8 h.op, .string h.name, .int .i64 h.n, .slice q k.len cap] 25)) (.cells #[.int .u8 0, .string ⟨#[]⟩, .int .i64 0, .slice none 0 0] 25)
  have e3 := World.alloc_heap_new ((w.alloc (.cells #[.int .u8 h.op, .string h.name, .int .i64 h.n, .slice q k.len cap] 25)).alloc (.cells #[.int .u8 0, .string ⟨#[]⟩, .int .i64 0, .slice none 0 0] 25)) (.cells #[.int .u8 ho.op, .string ho.name, .int .i64 ho.n, .slice none 0 0] 25)
  simp only [World.size_alloc] at e2 e3
  refine ⟨⟨by omega, by omega, by omega, by omega, by omega, by omega, by omega, by omega, by omega⟩, Nat.zero_le _, ⟨[], World.ownsRow_nil _ _ _ _, fun w'' _ => by rw [Fo.take_zero]; rfl⟩, ?_, ?_, e3, ((below_box _ _).alloc (by simp) _).alloc (by simp; omega) _, by simp⟩
  · exact ((below_box _ _).block _ (by simp; omega)).trans (((below_box _ _).block _ (by simp)).trans e1)
  · exact ((below_box _ _).block _ (by simp)).trans e2

theorem MpI.go {w : World} {h ho : Hd} {k : Fo} {q : Option Addr} {L cap : Nat} {G : Hd → Fo → Hd × Fo} {bt br bo base j : Nat} {v v' : Value} {wr w1 w2 : World} {cs : List Value} {q2 : Option Addr} {cap2 : Nat} {o : Obj} (hS : MpS w bt br bo base)
    (hI : MpI w h ho k q L cap G bt br bo base j v wr) (hL : k.len = L) (hj : j < L)
    (hv : ∀ r, v.ownBlock = some r → base ≤ r ∧ r < wr.heap.size)
    (hcs : ∀ w'' : World, (∀ b, base ≤ b → b < wr.heap.size → v.ownBlock ≠ some b → w''.heap[b]? = wr.heap[b]?) → CellsOf w'' (mapG G (k.take j)) cs)
    (hb1 : Below wr.drew.heap.size wr.drew w1)
    (hk2 : DpS (fun b => wr.drew.heap.size ≤ b) w1 q2 cap2 (G (k.get j).1 (k.get j).2).2)
    (hown : w2.ownsRow base 25 4 v' (j + 1) (cs ++ [.int .u8 (G (k.get j).1 (k.get j).2).1.op, .string (G (k.get j).1 (k.get j).2).1.name, .int .i64 (G (k.get j).1 (k.get j).2).1.n, .slice q2 (G (k.get j).1 (k.get j).2).2.len cap2]))
    (hg : (w1.alloc o).grownBy w2 v.ownBlock) (hat : v'.ownBlock = v.ownBlock ∨ v'.ownBlock = some (w1.alloc o).heap.size) :
    MpI w h ho k q L cap G bt br bo base (j + 1) v' (w2.setCell ⟨bo, 3, none⟩ v') := by
  have hjk : j < k.len := by omega
  obtain ⟨t0, t1, r0, r1, o0, o1, tr, tO, ro⟩ := hS
  have hs1 : wr.heap.size ≤ w1.heap.size := hb1.size
  have hs2 : (w1.alloc o).heap.size ≤ w2.heap.size := hg.size
  rw [World.size_alloc] at hs2 hat
  have hroom := hI.room
  have hset : ∀ b, b ≠ bo → (w2.setCell ⟨bo, 3, none⟩ v').heap[b]? = w2.heap[b]? := fun b hb => Below.heap_setCell _ _ _ b hb
  have h21 : ∀ b, b < w1.heap.size → v.ownBlock ≠ some b → w2.heap[b]? = w1.heap[b]? := fun b hb hne =>
    (hg.block b (by rw [World.size_alloc]; omega) (fun e => hne e.symm)).trans ((below_box w1 o).block b hb)
  have h1r : ∀ b, b < wr.heap.size → w1.heap[b]? = wr.heap[b]? := fun b hb => hb1.block b hb
  have hold : ∀ b, b < base → v.ownBlock ≠ some b := fun b hb e => by have := (hv b e).1; omega
  have hsz3 : (w2.setCell ⟨bo, 3, none⟩ v').heap.size = w2.heap.size := by simp
  refine ⟨hj, ⟨_, hown.kept (row := some bo) (setCell_grown w2 _ 3 v') (.inr ?_), ?_⟩, ?_, ?_, ?_, ?_, by rw [hsz3]; omega⟩
  · intro e; have := (hown.lt _ e).1; omega
  · intro w'' hag
    rw [Fo.take_succ hjk, mapG_app]
    refine CellsOf.app (hcs w'' (fun b hb1' hb2 hb3 => ?_)) ⟨q2, cap2, [], rfl, hk2 w'' (fun b hb1' hb2 => ?_), rfl⟩
    · rw [hag b hb1' (by rw [hsz3]; omega) (by rcases hat with e | e <;> rw [e]; exact hb3; intro e2; have := Option.some.inj e2; omega), hset b (by omega), h21 b (by omega) hb3, h1r b hb2]
    · have hb1'' : wr.heap.size ≤ b := hb1'
      have hne : v.ownBlock ≠ some b := fun e => by have := (hv b e).2; omega
      rw [hag b (by omega) (by rw [hsz3]; omega) (by rcases hat with e | e <;> rw [e]; exact hne; intro e2; have := Option.some.inj e2; omega), hset b (by omega), h21 b hb2 hne]
  · rw [hset _ tO, h21 _ (by omega) (hold _ (by omega)), h1r _ (by omega)]; exact hI.bt
  · rw [hset _ ro, h21 _ (by omega) (hold _ (by omega)), h1r _ (by omega)]; exact hI.br
  · have : w2.heap[bo]? = some (.cells #[.int .u8 ho.op, .string ho.name, .int .i64 ho.n, v] 25 (0, 0)) := by
      rw [h21 _ (by omega) (hold _ (by omega)), h1r _ (by omega)]; exact hI.bo
    simpa using row_set this 3 v'
  · have b1 : Below w.heap.size w w1 := hI.below.drew.trans (hb1.mono (by have := hI.below.size; exact this))
    have b2 : Below w.heap.size w w2 := (b1.alloc b1.size o).grown hg (by rw [World.size_alloc]; have := b1.size; omega) (fun r e => by have := (hv r e).1; omega)
    exact b2.setCell (by simpa using o0) _

theorem MpI.nine {w : World} {h ho : Hd} {k : Fo} {q : Option Addr} {L cap : Nat} {G : Hd → Fo → Hd × Fo} {bt br bo base j : Nat} {v : Value} {wr w1 w2 : World} {o : Obj} (hS : MpS w bt br bo base)
    (hI : MpI w h ho k q L cap G bt br bo base j v wr) (hv : ∀ r, v.ownBlock = some r → base ≤ r ∧ r < wr.heap.size) (hb1 : Below wr.drew.heap.size wr.drew w1) (hg : (w1.alloc o).grownBy w2 v.ownBlock) :
    w2.heap[bo]? = some (.cells #[.int .u8 ho.op, .string ho.name, .int .i64 ho.n, v] 25 (0, 0)) := by
  have hs1 : wr.heap.size ≤ w1.heap.size := hb1.size
  have hroom := hI.room
  have o1 := hS.o1
  refine (hg.block _ (by rw [World.size_alloc]; omega) (fun e => by have := (hv _ e.symm).1; omega)).trans (((below_box w1 o).block _ (by omega)).trans ((hb1.block bo (by show _ < wr.heap.size; omega)).trans hI.bo))

theorem MpI.fin {w : World} {h ho : Hd} {k : Fo} {q : Option Addr} {L cap : Nat} {G : Hd → Fo → Hd × Fo} {bt br bo base : Nat} {v : Value} {wr : World} (hS : MpS w bt br bo base)
    (hI : MpI w h ho k q L cap G bt br bo base L v wr) (hL : k.len = L) :
    ∃ q' cap', v = .slice q' L cap' ∧ ∀ v0 v1 v2 v3, CnPost w (ho, mapG G k) (.returned (.agg #[.int .u8 ho.op, .string ho.name, .int .i64 ho.n, .slice q' L cap'])) (World.set4 wr br v0 v1 v2 v3) := by
  obtain ⟨cs, hown, hcs⟩ := hI.own
  obtain ⟨t0, t1, r0, r1, o0, o1, tr, tO, ro⟩ := hS
  subst hL
  rw [Fo.take_all] at hcs
  have hlen := mapG_len G k
  have hbel : ∀ v0 v1 v2 v3, Below w.heap.size w (World.set4 wr br v0 v1 v2 v3) := fun v0 v1 v2 v3 => hI.below.grown (set4_grown _ _ _ _ _ _) hI.below.size (fun r e => by have := Option.some.inj e; omega)
  have hag : ∀ (v0 v1 v2 v3 : Value) (w'' : World), (∀ b, w.heap.size ≤ b → b < (World.set4 wr br v0 v1 v2 v3).heap.size → w''.heap[b]? = (World.set4 wr br v0 v1 v2 v3).heap[b]?) → ∀ b, base ≤ b → b < wr.heap.size → w''.heap[b]? = wr.heap[b]? := fun v0 v1 v2 v3 w'' hh b h1 h2 => by
    have hg := set4_grown wr br v0 v1 v2 v3
    exact (hh b (by omega) (Nat.lt_of_lt_of_le h2 hg.size)).trans (hg.block b h2 (fun e => by have := Option.some.inj e; omega))
  by_cases h0 : k.len = 0
  · have hn : ∃ q' cap', v = .slice q' k.len cap' ∧ cap' ≤ maxLen := by
      rcases hown.2 with ⟨rfl, e⟩ | ⟨g, c, cur, rfl, _, _, _, hc, _⟩
      · exact ⟨none, 0, by rw [e], Nat.zero_le _⟩
      · exact ⟨_, c, rfl, hc⟩
    obtain ⟨q', cap', rfl, hc⟩ := hn
    refine ⟨q', cap', rfl, fun v0 v1 v2 v3 => ⟨q', cap', by rw [hlen], fun w'' _ => ⟨by rw [hlen]; omega, hc, fun h' => by rw [hlen] at h'; omega⟩, hbel _ _ _ _⟩⟩
  · obtain ⟨g, cap', cur, rfl, hg, hgc, hc1, hc2, hcell⟩ := own_some hown (by omega)
    have hlt := (Array.getElem?_eq_some_iff.1 hgc).1
    refine ⟨_, cap', rfl, fun v0 v1 v2 v3 => ⟨_, cap', by rw [hlen], fun w'' hh => ⟨by rw [hlen]; exact hc1, hc2, fun _ => ⟨g, 0, rfl, ?_⟩⟩, hbel _ _ _ _⟩⟩
    have ha := hag v0 v1 v2 v3 w'' hh
    refine CellsOf.fo (hcs w'' (fun b h1 h2 _ => ha b h1 h2)) fun j u hj => ?_
    have e : w''.heap[g]? = wr.heap[g]? := ha g hg hlt
    exact (World.cell?_of_block (a := ⟨g, 0 + j, none⟩) e).trans (hcell j u hj)
end Go.Proofs.Ytmjijmkdeblefaa

/- The document's Canon: plain words, and what its first loop keeps. -/
namespace Go.Proofs.Ytmjijmkdeblefaa
open Go.RowKit LM
set_option linter.unusedVariables false

theorem shapes_get : ∀ {k : Fo} {ks : List Nat} {j : Nat}, k.shapes ks = true → (∀ s ∈ ks, s = 1 ∨ s = 2) → j < k.len → ∃ s, sh1 (k.get j).1 (k.get j).2 s = true ∧ (s = 1 ∨ s = 2)
  | .nil, ks, j, _, _, hj => by simp [Fo.len] at hj
  | .cons h k r, [], j, hs, _, _ => by simp [Fo.shapes] at hs
  | .cons h k r, s :: ss, 0, hs, h12, _ => by rw [Fo.get_zero]; exact ⟨s, (shapes_two.1 hs).1, h12 s (by simp)⟩
  | .cons h k r, s :: ss, j + 1, hs, h12, hj => by rw [Fo.get_succ]; exact shapes_get (shapes_two.1 hs).2 (fun x hx => h12 x (by simp [hx])) (by simpa [Fo.len] using hj)
theorem kidsL_12 {op : Int} {ks : List Nat} (hkl : kidsL op = some ks) : ∀ x ∈ ks, x = 1 ∨ x = 2 := by
  intro x hx
  unfold kidsL at hkl
  split at hkl
  · cases hkl; cases hx
  · split at hkl
    · cases hkl; simp at hx; omega
    · split at hkl
      · cases hkl; simp at hx; omega
      · split at hkl
        · cases hkl; simp at hx; omega
        · cases hkl
theorem sh1_get {h : Hd} {k : Fo} {s : Nat} (hs : sh1 h k s = true) {j : Nat} (hj : j < k.len) : ∃ s, sh1 (k.get j).1 (k.get j).2 s = true ∧ (s = 1 ∨ s = 2) := by
  obtain ⟨ks, h1, _, _, h4⟩ := sh1_kids hs
  exact shapes_get h4 (kidsL_12 h1) hj
theorem sh1_nop {h : Hd} {k : Fo} {s : Nat} (hs : sh1 h k s = true) (hop : h.op ≠ 11) : canT h k = (h, mapG canT k) := by
  obtain ⟨ks, h1, h2, h3, h4⟩ := sh1_kids hs
  rw [mapG_canT]
  have h12 := kidsL_sort h1
  rcases h12 with e | e
  · exact canT_type (sh1_of h1 e h3 h4)
  · have hk : k = .nil := by
      have e2 : ks = [] := by
        unfold kidsL at h1
        split at h1
        · exact (Option.some.inj h1).symm
        · unfold sortO at e
          split at e
          · cases e
          · exfalso; revert h1; (repeat (first | rw [if_neg (by omega)] | rw [if_neg hop])); intro h1; cases h1
      subst e2
      exact shapes_nil h4
    subst hk
    rw [canT_nop hop]
    rw [show topS h .nil = .nil from rfl, canL_nil]; rfl

/-- A field whose type has been put anew. -/
def reF (f : Fld) (T : Hd × Fo) (q : Option Addr) (cap : Nat) : Fld := ⟨f.name, T.1, q, T.2, cap⟩
theorem setCell_same {W : World} {g o : Nat} {cs : Array Value} {t : TypeId} {v : Value} (h : W.heap[g]? = some (.cells cs t (0, 0))) (hc : cs[o]? = some v) : W.setCell ⟨g, o, none⟩ v = W := by
  have hlt := (Array.getElem?_eq_some_iff.1 h).1
  have e : (W.setCell ⟨g, o, none⟩ v).heap = W.heap := by
    apply Array.ext_getElem?
    intro i
    by_cases hi : i = g
    · subst hi
      rw [row_set h o v, h]
      congr 2
      apply Array.ext_getElem?
      intro x
      rw [Array.getElem?_setIfInBounds]
      split
      · next e => subst e; rw [hc]; split <;> simp_all
      · rfl
    · exact Below.heap_setCell _ _ _ i hi
  cases W
  simp only [World.setCell] at e ⊢
  simpa using e
theorem set5_four {W : World} {B g cap : Nat} {fs : List Fld} (h : FlAt W B g cap fs) {i : Nat} (hi : i < fs.length) (f : Fld) (hn : f.name = fs[i].name) :
    World.set5 W g (i * 5) f = (((W.setCell ⟨g, i * 5 + 1, none⟩ (.int .u8 f.h.op)).setCell ⟨g, i * 5 + 2, none⟩ (.string f.h.name)).setCell ⟨g, i * 5 + 3, none⟩ (.int .i64 f.h.n)).setCell ⟨g, i * 5 + 4, none⟩ (.slice f.q f.k.len f.cap) := by
  obtain ⟨cur, _, hg, _⟩ := h.parts
  have hc := (h.cells hi).1
  simp only [World.cell?, hg] at hc
  unfold World.set5
  rw [setCell_same hg (v := .string f.name) (by rw [hn]; simpa using hc)]
end Go.Proofs.Ytmjijmkdeblefaa

/- The document's Canon: a row's fields, one by one. -/
namespace Go.Proofs.Ytmjijmkdeblefaa
open Go.RowKit LM
set_option linter.unusedVariables false

theorem rowF_nil {h : Hd} {k : Fo} (hs : sh1 h k 2 = true) : (rowF h k).2.2 = .nil := by
  obtain ⟨h1, h2⟩ := rowF_sh k h hs
  obtain ⟨ks, e1, e2, e3, e4⟩ := sh1_kids h2
  have hop : (rowF h k).2.1.op ≠ 11 := rowF_tail k h hs
  have e : ks = [] := by
    unfold kidsL at e1
    split at e1
    · exact (Option.some.inj e1).symm
    · unfold sortO at e2
      split at e2
      · cases e2
      · exfalso; revert e1; (repeat (first | rw [if_neg (by omega)] | rw [if_neg hop])); intro e1; cases e1
  subst e
  exact shapes_nil e4

/-- The blocks in which what has been put lies. -/
def Sx (w : World) (a : Option Addr) (n cp : Nat) (b : Nat) : Prop := w.heap.size + 2 ≤ b ∧ (Value.slice a n cp).ownBlock ≠ some b

structure RwI (w : World) (gs : List Fld) (th : Hd) (tk : Fo) (tq : Option Addr) (tc : Nat) (a : Option Addr) (n cp bT j : Nat) (wr : World) : Prop where
  le : j ≤ n
  ds : ∃ ds : List Fld, wr.ownsRow (w.heap.size + 2) 40 5 (.slice a n cp) n (fldCells ds) ∧ ds.length = n ∧
      (∀ i (h1 : i < ds.length) (h2 : i < gs.length), ds[i].name = gs[i].name ∧ (i < j → (ds[i].h, ds[i].k) = canT gs[i].h gs[i].k ∧ DpS (Sx w a n cp) wr ds[i].q ds[i].cap ds[i].k) ∧ (j ≤ i → ds[i] = gs[i]))
  res : wr.heap[w.heap.size + 1]? = some (.cells #[.int .u8 0, .string ⟨#[]⟩, .int .i64 0, .slice none 0 0] 25 (0, 0))
  tb : wr.heap[bT]? = some (.cells #[.int .u8 th.op, .string th.name, .int .i64 th.n, .slice tq tk.len tc] 25 (0, 0))
  below : Below w.heap.size w wr
  room : w.heap.size + 2 ≤ bT

theorem RwI.start {w w1 : World} {gs : List Fld} {th : Hd} {tk : Fo} {tq : Option Addr} {tc : Nat} {a : Option Addr} {n cp : Nat} (hl : gs.length = n) (hown : w1.ownsRow (w.heap.size + 2) 40 5 (.slice a n cp) n (fldCells gs))
    (hres : w1.heap[w.heap.size + 1]? = some (.cells #[.int .u8 0, .string ⟨#[]⟩, .int .i64 0, .slice none 0 0] 25 (0, 0))) (hb : Below w.heap.size w w1) (hz : w.heap.size + 2 ≤ w1.heap.size) :
    RwI w gs th tk tq tc a n cp w1.heap.size 0 (w1.alloc (.cells #[.int .u8 th.op, .string th.name, .int .i64 th.n, .slice tq tk.len tc] 25)) :=
  ⟨Nat.zero_le _, ⟨gs, hown.alloc _, hl, fun i h1 h2 => ⟨rfl, fun h => absurd h (Nat.not_lt_zero _), fun _ => rfl⟩⟩, ((below_box w1 _).block _ (by omega)).trans hres, World.alloc_heap_new w1 _, hb.alloc hb.size _, hz⟩

theorem RwI.go {w : World} {gs : List Fld} {th : Hd} {tk : Fo} {tq : Option Addr} {tc g n cp bT j : Nat} {wr w2 : World} {q2 : Option Addr} {cap2 : Nat} (hI : RwI w gs th tk tq tc (some ⟨g, 0, none⟩) n cp bT j wr) (hn : gs.length = n) (hj : j < n) (hjg : j < gs.length)
    (hb : Below wr.heap.size wr w2) (hk : DpS (fun b => wr.heap.size ≤ b) w2 q2 cap2 (canT gs[j].h gs[j].k).2) :
    RwI w gs th tk tq tc (some ⟨g, 0, none⟩) n cp bT (j + 1) ((((w2.setCell ⟨g, j * 5 + 1, none⟩ (.int .u8 (canT gs[j].h gs[j].k).1.op)).setCell ⟨g, j * 5 + 2, none⟩ (.string (canT gs[j].h gs[j].k).1.name)).setCell ⟨g, j * 5 + 3, none⟩ (.int .i64 (canT gs[j].h gs[j].k).1.n)).setCell ⟨g, j * 5 + 4, none⟩ (.slice q2 (canT gs[j].h gs[j].k).2.len cap2)) := by
  obtain ⟨ds, hown, hdl, hds⟩ := hI.ds
  have hgl := hown.lt g rfl
  have hfl : FlAt wr (w.heap.size + 2) g cp ds := by unfold FlAt; rw [hdl]; exact hown
  have hfl2 : FlAt w2 (w.heap.size + 2) g cp ds := hfl.kept hb
  have hjd : j < ds.length := by omega
  have hd := (hds j hjd hjg).2.2 (Nat.le_refl _)
  have h5 := set5_four hfl2 hjd (reF gs[j] (canT gs[j].h gs[j].k) q2 cap2) (by rw [hd]; rfl)
  have hset := hfl2.set hjd (reF gs[j] (canT gs[j].h gs[j].k) q2 cap2)
  have hgr := set5_grown w2 g (j * 5) (reF gs[j] (canT gs[j].h gs[j].k) q2 cap2)
  have e : (((w2.setCell ⟨g, j * 5 + 1, none⟩ (.int .u8 (canT gs[j].h gs[j].k).1.op)).setCell ⟨g, j * 5 + 2, none⟩ (.string (canT gs[j].h gs[j].k).1.name)).setCell ⟨g, j * 5 + 3, none⟩ (.int .i64 (canT gs[j].h gs[j].k).1.n)).setCell ⟨g, j * 5 + 4, none⟩ (.slice q2 (canT gs[j].h gs[j].k).2.len cap2) = World.set5 w2 g (j * 5) (reF gs[j] (canT gs[j].h gs[j].k) q2 cap2) := h5.symm
  rw [e]
  generalize World.set5 w2 g (j * 5) (reF gs[j] (canT gs[j].h gs[j].k) q2 cap2) = W3 at *
  clear e h5
  have s2 := hb.size
  have s3 := hgr.size
  have hob : (Value.slice (some ⟨g, 0, none⟩) n cp).ownBlock = some g := rfl
  have hbT : bT ≠ g := fun e => by
    obtain ⟨cur, _, hc, _⟩ := hfl.parts
    have := hI.tb
    rw [e, hc] at this
    cases this
  have hbl := (Array.getElem?_eq_some_iff.1 hI.tb).1
  have hrl := (Array.getElem?_eq_some_iff.1 hI.res).1
  have kp : ∀ b, b < wr.heap.size → b ≠ g → W3.heap[b]? = wr.heap[b]? := fun b hb' hne => (hgr.block b (by omega) (fun e => hne (Option.some.inj e))).trans (hb.block b hb')
  refine ⟨hj, ⟨ds.set j (reF gs[j] (canT gs[j].h gs[j].k) q2 cap2), ?_, by rw [List.length_set]; exact hdl, fun i h1 h2 => ?_⟩, (kp _ hrl (by omega)).trans hI.res, (kp _ hbl hbT).trans hI.tb, ?_, hI.room⟩
  · have := hset
    unfold FlAt at this
    rw [List.length_set, hdl] at this
    exact this
  · have h1' : i < ds.length := by simpa using h1
    by_cases hij : i = j
    · subst hij
      rw [List.getElem_set_self]
      refine ⟨rfl, fun _ => ⟨rfl, ?_⟩, fun h => by omega⟩
      have hx : DpS (fun b => wr.heap.size ≤ b) W3 q2 cap2 (canT gs[i].h gs[i].k).2 := hk.grown s3 (fun b h3 h4 => hgr.block b h4 (fun e => by have := Option.some.inj e; omega))
      exact hx.mono (fun b h3 => ⟨by have := hI.room; omega, fun e => by rw [hob] at e; have := Option.some.inj e; omega⟩)
    · rw [List.getElem_set_ne (by omega)]
      obtain ⟨e1, e2, e3⟩ := hds i h1' h2
      refine ⟨e1, fun h => ?_, fun h => e3 (by omega)⟩
      obtain ⟨e4, e5⟩ := e2 (by omega)
      exact ⟨e4, e5.grown (by omega) (fun b h3 h4 => kp b h4 (fun e => h3.2 (by rw [hob, e])))⟩
  · exact (hI.below.trans (hb.mono hI.below.size)).grown hgr (by have := hI.below.size; omega) (fun r e => by have := Option.some.inj e; omega)

theorem RwI.of {w : World} {gs : List Fld} {th : Hd} {tk : Fo} {tq : Option Addr} {tc : Nat} {a : Option Addr} {n cp bT : Nat} {wr : World} {T : Hd × Fo} (hI : RwI w gs th tk tq tc a n cp bT n wr) (hn : gs.length = n) (hm : n ≤ 1099511627776)
    (htk : tk = .nil) (htc : tc ≤ maxLen) (hT : rowT (th, tk) (gs.map fun f => (f.name, canT f.h f.k)) = T) :
    Calls Try.prog 67 #[.slice a n cp, .agg #[.int .u8 th.op, .string th.name, .int .i64 th.n, .slice tq tk.len tc]] wr (OfPost (Sx w a n cp) wr T) := by
  obtain ⟨ds, hown, hdl, hds⟩ := hI.ds
  have hown' := hown
  rw [← hdl] at hown'
  obtain ⟨a', c', e1, hf⟩ := own_fdSl hown'
  rw [hdl] at e1
  cases e1
  have key : ds.map Fld.key = gs.map fun f => (f.name, canT f.h f.k) := by
    apply List.ext_getElem
    · simp [hdl, hn]
    · intro i h1 h2
      have h1' : i < ds.length := by simpa using h1
      have h2' : i < gs.length := by simpa using h2
      obtain ⟨e1, e2, _⟩ := hds i h1' h2'
      have e3 := (e2 (by omega)).1
      simp only [List.getElem_map, Fld.key, e1, e3]
  have := Of_dep (Sx w a n cp) ds a cp th tk tq tc wr hf (by rw [htk]; exact DpS.nil htc) (fun f hf' => by
    obtain ⟨i, hi, rfl⟩ := List.getElem_of_mem hf'
    exact ((hds i hi (by omega)).2.1 (by omega)).2) (by rw [htk]; exact ⟨Nat.zero_le _, htc⟩) (by omega)
  rw [key, hT, hdl] at this
  exact this

theorem rw_end {w wr w3 : World} {a : Option Addr} {n cp : Nat} {T : Hd × Fo} {q' : Option Addr} {c' : Nat} (hbw : Below w.heap.size w wr) (hz : w.heap.size + 2 ≤ wr.heap.size) (hd : DpS (fun b => Sx w a n cp b ∨ wr.heap.size ≤ b) w3 q' c' T.2) (hb : Below wr.heap.size wr w3) (v0 v1 v2 v3 : Value) :
    CnPost w T (.returned (.agg #[.int .u8 T.1.op, .string T.1.name, .int .i64 T.1.n, .slice q' T.2.len c'])) (World.set4 w3 (w.heap.size + 1) v0 v1 v2 v3) := by
  have hg := set4_grown w3 (w.heap.size + 1) v0 v1 v2 v3
  have b3 := hbw.trans (hb.mono hbw.size)
  refine ⟨q', c', rfl, ?_, b3.grown hg b3.size (fun r e => by have := Option.some.inj e; omega)⟩
  refine DpS.mono (S := fun b => w.heap.size + 2 ≤ b) ?_ (fun b h => by omega)
  refine DpS.grown (DpS.mono hd (fun b h => ?_)) hg.size (fun b h1 h2 => hg.block b h2 (fun e => by have := Option.some.inj e; omega))
  rcases h with h | h
  · exact h.1
  · show _ ≤ b; omega

set_option maxRecDepth 100000 in
set_option maxHeartbeats 2000000 in
theorem refCanon_any (m : Nat) : ∀ (h : Hd) (k : Fo) (q : Option Addr) (cap : Nat) (w : World) (s : Nat), k.size < m → 1 + k.size ≤ 1099511627776 → sh1 h k s = true → (s = 1 ∨ s = 2) → SlF w q cap k →
    Calls Try.prog 21 #[.agg #[.int .u8 h.op, .string h.name, .int .i64 h.n, .slice q k.len cap]] w (CnPost w (canT h k)) := by
  induction m with
  | zero => intro h k q cap w s hm; omega
  | succ m ih =>
    intro h k q cap w s hm hsz hsh h12 hsl
    by_cases hop : h.op = 11
    · have hs2 : sh1 h k 2 = true := by
        obtain ⟨_, _, e, _, _⟩ := sh1_kids hsh
        have : s = 2 := by rw [← e, hop]; rfl
        rwa [this] at hsh
      have hok : rowOK h k := shapes_rowOK k h hs2
      obtain ⟨fs, th, tk, tq, tc, hc, he⟩ := RowCh.of k h q cap hok hsl
      have hmem := hc.mem
      have hsz0 := rowF_size k h
      have hfsh := (rowF_sh k h hs2).1
      have hnil := rowF_nil hs2
      have hcan := canT_row hs2
      have htc := hmem.2.cm
      rw [he] at hsz0 hfsh hnil hcan
      simp only at hnil
      have hlen : fs.length ≤ k.size := hc.len
      have hT : rowT (th, tk) ((insF fs).map fun f => (f.name, canT f.h f.k)) = canT h k := by
        rw [hcan, ← insF_keys, List.map_map]; rfl
      have hgs : ∀ f ∈ insF fs, SlF w f.q f.cap f.k ∧ sh1 f.h f.k 1 = true ∧ f.k.size + 2 ≤ k.size := fun f hf => by
        have hf' := (insF_perm fs).mem_iff.1 hf
        refine ⟨hmem.1 f hf', (hfsh (f.name, f.h, f.k) (List.mem_map.2 ⟨f, hf', rfl⟩)).2, ?_⟩
        have : f.k.size + 2 ≤ ((fs.map fun f => (f.name, f.h, f.k)).map fun x => x.2.2.size + 2).sum := by
          rw [List.map_map]
          exact le_sum (List.mem_map.2 ⟨f, hf', rfl⟩)
        simp only at hsz0; omega
      have hgl := length_insF fs
      have HF := Lib.hid fun w' (hb : Below w.heap.size w w') => Fields_any h k q cap w' fs th tk tq tc (hc.under hb) (by omega)
      have HIH : Hid (∀ (j : Nat) (f : Fld) (w' : World), (insF fs)[j]? = some f → Below w.heap.size w w' → Calls Try.prog 21 #[.agg #[.int .u8 f.h.op, .string f.h.name, .int .i64 f.h.n, .slice f.q f.k.len f.cap]] w' (CnPost w' (canT f.h f.k))) := Lib.hid fun j f w' hj hb => by
        obtain ⟨h1, h2, h3⟩ := hgs _ (List.mem_of_getElem? hj)
        exact ih _ _ _ _ w' 1 (by omega) (by omega) h2 (.inl rfl) (h1.below hb)
      have hop' : (h.op == 11) = true := by simpa using hop
      have hgn : (insF fs).length ≤ 1099511627776 := by omega
      have HT := Lib.hid hT
      have HNIL := Lib.hid hnil
      have HTC := Lib.hid htc
      clear hc he hmem hsz0 hfsh hnil hcan htc hT hgs hsl hsh hs2 hok ih hm hop hsz hlen h12
      unfold FlatPost at HF
      rw [← hgl] at HF
      generalize canT h k = T at *
      generalize hgd : insF fs = gs at *
      have HGL : Hid (gs.length = gs.length) := Lib.hid rfl
      clear hgl hgd
      go_enter Try.func21, Try.ntmps21
      go_wp2_with fail
      refine (HF.out _ ((below_box _ _).alloc (by simp) _)).mono ?_
      rintro e w1 ⟨v, rfl, hown, hb1⟩
      obtain ⟨hbw, hbx, hres⟩ := two_boxes hb1
      obtain ⟨a, cp, rfl⟩ := own_val hown
      have HST := Lib.hid (RwI.start (gs := gs) (th := th) (tk := tk) (tq := tq) (tc := tc) rfl (by simpa using hown) hres hbw (by have := hb1.size; simpa using this))
      clear hb1 hown hbw hbx hres
      generalize hnd : gs.length = n at *
      have HN := Lib.hid hnd
      clear hnd
      go_wp2
      go_loopw [5] (fun i wr => ∃ j : Nat, i = .int .i64 j ∧ RwI w gs th tk tq tc a n cp w1.heap.size j wr) (fun i _ => n - (intOf i).toNat)
      case atStart => exact ⟨0, rfl, HST.out⟩
      case round =>
        obtain ⟨j, rfl, hI⟩ := hrel
        have hjn := hI.le
        have HI := Lib.hid hI
        by_cases hj : j < n
        · have hjg : j < gs.length := by rw [HN.out]; exact hj
          obtain ⟨ds, hown, hdl, hds⟩ := hI.ds
          obtain ⟨g, c', cur, e, _, hgc, _⟩ := own_some hown (by omega)
          cases e
          have hglt := (Array.getElem?_eq_some_iff.1 hgc).1
          have hjd : j < ds.length := by omega
          have hfl : FlAt wr (w.heap.size + 2) g cp ds := by unfold FlAt; rw [hdl]; exact hown
          have hd := (hds j hjd hjg).2.2 (Nat.le_refl _)
          obtain ⟨c0, c1, c2, c3, c4⟩ := hfl.cells hjd
          rw [hd] at c1 c2 c3 c4
          have HC := Lib.hid (HIH.out j gs[j] wr (List.getElem?_eq_getElem hjg) hI.below)
          have HGO := Lib.hid (fun (w2 : World) (q2 : Option Addr) (cap2 : Nat) (hb : Below wr.heap.size wr w2) (hk : DpS (fun b => wr.heap.size ≤ b) w2 q2 cap2 (canT gs[j].h gs[j].k).2) => hI.go HN.out hj hjg hb hk)
          have HFL := Lib.hid hfl
          have hcm : n ≤ 1099511627776 := hgn
          clear hI hown hdl hds hgc hjd hd c0 hfl
          generalize gs[j] = f at *
          generalize canT f.h f.k = F at *
          have hj0 : (0 : Int) ≤ (j : Int) := by omega
          have hjL : (j : Int) < (n : Int) := by omega
          go_wp2_with (refine HC.out.mono ?_; rintro e w2 ⟨q2, cap2, rfl, hk2, hb2⟩; have k1 := (HFL.out.kept hb2).frozen; have kk := bcell hb2; have m1 := (kk.1 g (j * 5 + 1) hglt).trans c1; have m2 := (kk.1 g (j * 5 + 2) hglt).trans c2; have m3 := (kk.1 g (j * 5 + 3) hglt).trans c3; have m4 := (kk.1 g (j * 5 + 4) hglt).trans c4; have f1 := k1 (j * 5 + 1); have f2 := k1 (j * 5 + 2); have f3 := k1 (j * 5 + 3); have f4 := k1 (j * 5 + 4); have HG := Lib.hid (HGO.out w2 q2 cap2 hb2 hk2); clear hk2 hb2 k1 kk)
          go_roundw
          case rel => exact ⟨j + 1, by go_num, HG.out⟩
          case measure => simp [intOf]; omega
        · have hje : j = n := by omega
          subst hje
          obtain ⟨t0, t1, t2, t3, _⟩ := row4 hI.tb
          have hrl := (Array.getElem?_eq_some_iff.1 hI.res).1
          have HO := Lib.hid (hI.of HN.out hgn HNIL.out HTC.out HT.out)
          have hlt : ¬ ((j : Int) < (j : Int)) := by omega
          clear hI hj
          go_wp2_with (refine HO.out.mono ?_; rintro e w3 ⟨q', c', rfl, hd, hb3⟩; obtain ⟨y0, y1, y2, y3, z0, z1, z2, z3⟩ := row4 ((hb3.block _ hrl).trans HI.out.res); have HE := Lib.hid (rw_end HI.out.below (by have := HI.out.room; have := (Array.getElem?_eq_some_iff.1 HI.out.tb).1; omega) hd hb3 (.int .u8 T.1.op) (.string T.1.name) (.int .i64 T.1.n) (.slice q' T.2.len c')); clear hd hb3)
          exact bodyPost_ret (v := .agg #[.int .u8 T.1.op, .string T.1.name, .int .i64 T.1.n, .slice q' T.2.len c']) (by simp [results, Try.results21, go_sem, y0, y1, y2, y3]) rfl HE.out
    · obtain ⟨i0, hi, hz0, hz1, hz2⟩ := info_parts info25
      rw [sh1_nop hsh hop]
      have HST := Lib.hid (MpI.start w h h k q cap canT)
      have HIH : Hid (∀ j, j < k.len → ∀ (q' : Option Addr) (cap' : Nat) (w' : World), SlF w' q' cap' (k.get j).2 → Calls Try.prog 21 #[.agg #[.int .u8 (k.get j).1.op, .string (k.get j).1.name, .int .i64 (k.get j).1.n, .slice q' (k.get j).2.len cap']] w' (CnPost w' (canT (k.get j).1 (k.get j).2))) :=
        Lib.hid fun j hj q' cap' w' h1 => by
          obtain ⟨s', hs', h12'⟩ := sh1_get hsh hj
          exact ih _ _ q' cap' w' s' (by have := Fo.get_size hj; omega) (by have := Fo.get_size hj; omega) hs' h12' h1
      have hlc := hsl.lc
      have hcm := hsl.cm
      unfold maxLen at hcm
      have hlk := Fo.len_le_size k
      have HSL := Lib.hid hsl
      have hop' : (h.op == 11) = false := by simpa using hop
      have HL : Hid ((mapG canT k).len = k.len) := Lib.hid (mapG_len _ _)
      clear hsl ih hm hsh hop h12
      generalize hLd : k.len = L at *
      have HLD := Lib.hid hLd
      clear hLd
      go_enter Try.func21, Try.ntmps21
      go_wp2
      go_loopw [7] (fun i wr => ∃ (j : Nat) (v : Value), i = .int .i64 j ∧ MpI w h h k q L cap canT w.heap.size (w.heap.size + 1) (w.heap.size + 2) (w.heap.size + 3) j v wr) (fun i _ => L - (intOf i).toNat)
      case atStart => exact ⟨0, _, rfl, HST.out.2⟩
      case round =>
        obtain ⟨j, v, rfl, hI⟩ := hrel
        obtain ⟨a0, a1, a2, a3, _⟩ := row4 hI.bt
        obtain ⟨c0, c1, c2, c3, f0, f1, f2, f3⟩ := row4 hI.bo
        have hjL := hI.le
        obtain ⟨cs, hown, hcells⟩ := hI.own
        have HI := Lib.hid hI
        have HO := Lib.hid hown
        have HCS := Lib.hid hcells
        clear hI hown hcells
        by_cases hj : j < L
        · have hjk : j < k.len := by rw [HLD.out]; exact hj
          obtain ⟨b, o, rfl, hfo⟩ := ((HSL.out.below HI.out.below).at_ (Nat.lt_of_le_of_lt (Nat.zero_le _) hjk))
          obtain ⟨q1, cap1, hd1, hs1⟩ := hfo.get j hjk
          have d0 := hd1.c0
          have d1 := hd1.c1
          have d2 := hd1.c2
          have d3 := hd1.c3
          have HC := Lib.hid fun w' hb => HIH.out j hj q1 cap1 w' (hs1.below (w := wr) hb)
          have HBD : Hid (Below wr.heap.size wr wr.drew) := Lib.hid (Below.refl _ _).drew
          clear hd1 hfo hs1
          have hLm : L ≤ 1099511627776 := by omega
          have HV := Lib.hid HO.out.lt
          have h9lt : w.heap.size + 2 < wr.heap.size := by have := HI.out.room; omega
          go_wp2
          go_region_law (first
            | (refine step_append_at rfl (.tmp 50) (.tmp 57) 23 rfl (w.heap.size + 3) 25 i0 _ 4 56 Try.underlying23 hi hz0 hz1 hz2 rfl (by decide) _ _ _ rfl (World.ownsRow.alloc HO1.out _) ⟨w1.heap.size, 0, none⟩ 1 1 [.int .u8 (canT (k.get j).1 (k.get j).2).1.op, .string (canT (k.get j).1 (k.get j).2).1.name, .int .i64 (canT (k.get j).1 (k.get j).2).1.n, .slice q2 (canT (k.get j).1 (k.get j).2).2.len cap2] rfl rfl (cells_new w1 [.int .u8 (canT (k.get j).1 (k.get j).2).1.op, .string (canT (k.get j).1 (k.get j).2).1.name, .int .i64 (canT (k.get j).1 (k.get j).2).1.n, .slice q2 (canT (k.get j).1 (k.get j).2).2.len cap2] 25) (kid_one _ _ _ _ _ _) (kid_bd hj hLm) (kid_bd2 hj hLm) (kid_bd3 HS1.out) ?_; intro v' w2 hown2 hg2 hat2; obtain ⟨g0, g1, g2, g3, k0, k1, k2, k3⟩ := row4 (HI.out.nine HST.out.1 HV.out HB1.out hg2); have HG := Lib.hid (HI.out.go HST.out.1 HLD.out hj HV.out HCS.out HB1.out HK2.out hown2 hg2 hat2); obtain ⟨gg, cg, cur, rfl, _⟩ := own_some hown2 (by omega); clear hown2 hg2 hat2)
            | (go_simp; go_at_call 21; refine (HC.out _ HBD.out).mono ?_; rintro e w1 ⟨q2, cap2, rfl, hk2, hb1⟩; obtain ⟨m0, m1, m2, m3, _⟩ := row4 ((hb1.block (w.heap.size + 2) h9lt).trans HI.out.bo); have HB1 := Lib.hid hb1; have HK2 := Lib.hid hk2; have HO1 := Lib.hid (own_grown (w := wr.drew) HO.out hb1); have HS1 : Hid (w.heap.size + 3 ≤ w1.heap.size) := Lib.hid (Nat.le_trans HI.out.room hb1.size); have h9l1 : w.heap.size + 2 < w1.heap.size := HS1.out; clear hk2 hb1))
          all_goals go_wp2
          all_goals exact ⟨⟨j + 1, _, by go_num, HG.out⟩, by simp [intOf]; omega⟩
        · have hje : j = L := by omega
          have HJ := Lib.hid hje
          clear hje
          have hI2 := HI.out
          rw [HJ.out] at hI2
          obtain ⟨q', cap', rfl, hfin⟩ := hI2.fin HST.out.1 HLD.out
          obtain ⟨y0, y1, y2, y3, z0, z1, z2, z3⟩ := row4 hI2.br
          have HF := Lib.hid (hfin (.int .u8 h.op) (.string h.name) (.int .i64 h.n) (.slice q' L cap'))
          clear hI2 hfin
          go_wp2
          exact bodyPost_ret (v := .agg #[.int .u8 h.op, .string h.name, .int .i64 h.n, .slice q' L cap']) (by simp [results, Try.results21, go_sem, y0, y1, y2, y3]) rfl HF.out
end Go.Proofs.Ytmjijmkdeblefaa
