/- Types as trees: which are right: plain. -/
import Derived.Test.YtmjijmkdeblefaaKdA
import Derived.Test.YtmjijmkdeblefaaLxM
namespace Go.Proofs.Ytmjijmkdeblefaa
open Go.RowKit LM
set_option linter.unusedVariables false

/-- Types (1), rows (2), neither (0). -/
def sortO (op : Int) : Nat := if 1 ≤ op ∧ op ≤ 7 then 1 else if 8 ≤ op ∧ op ≤ 11 then 2 else 0
/-- Which Kids an Op has. -/
def kidsL (op : Int) : Option (List Nat) :=
  if op = 1 ∨ op = 2 ∨ op = 3 ∨ op = 7 ∨ op = 8 ∨ op = 9 ∨ op = 10 then some []
  else if op = 4 then some [1, 1] else if op = 5 ∨ op = 6 then some [2] else if op = 11 then some [1, 2] else none

/-- What a part has besides its Kids is what its Op asks for. -/
def headB (h : Hd) : Bool :=
  (if h.op = 11 then wordL h.name.toList else h.name.toList.isEmpty) && decide (0 ≤ h.n) && (decide (h.op = 7) || decide (h.op = 10) || decide (h.n = 0))

namespace Fo
def sorts : Fo → List Nat
  | nil => []
  | cons h _ r => sortO h.op :: r.sorts
/-- The parts' own answers: shapes. -/
def shapes : Fo → List Nat → Bool
  | nil, [] => true
  | nil, _ :: _ => false
  | cons _ _ _, [] => false
  | cons h k r, s :: ss => (match kidsL h.op with | some ks => decide (sortO h.op = s) && headB h && k.shapes ks | Option.none => false) && r.shapes ss
end Fo

/-- Is a part what its Op asks for? -/
def fitsB (h : Hd) (k : Fo) : Bool := match kidsL h.op with | some ks => headB h && decide (k.sorts = ks) | Option.none => false
def fitsAll (l : List (Hd × Fo)) : Bool := l.all fun p => fitsB p.1 p.2

theorem kidsL_sort {op : Int} {ks : List Nat} (h : kidsL op = some ks) : sortO op = 1 ∨ sortO op = 2 := by
  unfold kidsL at h; unfold sortO
  by_cases h1 : 1 ≤ op ∧ op ≤ 7
  · simp [h1]
  · by_cases h2 : 8 ≤ op ∧ op ≤ 11
    · simp [h1, h2]
    · exfalso
      rw [if_neg (by omega), if_neg (by omega), if_neg (by omega), if_neg (by omega)] at h
      cases h

theorem Fo.shapes_eq (f : Fo) : ∀ ss : List Nat, (∀ s ∈ ss, s = 1 ∨ s = 2) → f.shapes ss = (decide (f.sorts = ss) && fitsAll f.flat) := by
  induction f with
  | nil => intro ss _; cases ss <;> simp [Fo.shapes, Fo.sorts, Fo.flat, fitsAll]
  | cons h k r hk hr =>
    intro ss hss
    cases ss with
    | nil => simp [Fo.shapes, Fo.sorts]
    | cons s ss =>
      have hs := hss s (by simp)
      have hss' : ∀ x ∈ ss, x = 1 ∨ x = 2 := fun x hx => hss x (by simp [hx])
      simp only [Fo.shapes, Fo.sorts, Fo.flat, fitsAll, List.all_cons, List.all_append]
      rw [hr ss hss']
      cases hkl : kidsL h.op with
      | none => simp [fitsB, hkl]
      | some ks =>
        have hks : ∀ x ∈ ks, x = 1 ∨ x = 2 := by
          intro x hx
          unfold kidsL at hkl
          split at hkl
          · cases hkl; cases hx
          · split at hkl
            · cases hkl; simp at hx; omega
            · split at hkl
              · cases hkl; simp at hx; omega
              · split at hkl
                · cases hkl; simp at hx; omega
                · cases hkl
        have e1 : fitsB h k = (headB h && decide (k.sorts = ks)) := by simp only [fitsB, hkl]
        simp only
        rw [hk ks hks, e1]
        simp only [fitsAll, List.cons.injEq, Bool.decide_and]
        generalize (k.flat.all fun p => fitsB p.1 p.2) = x1
        generalize (r.flat.all fun p => fitsB p.1 p.2) = x2
        generalize decide (sortO h.op = s) = x3
        generalize decide (k.sorts = ks) = x4
        generalize decide (r.sorts = ss) = x5
        cases x1 <;> cases x2 <;> cases x3 <;> cases x4 <;> cases x5 <;> cases headB h <;> rfl

/-! ### Variables of both sorts -/
theorem snoc_ind {α : Type} {P : List α → Prop} (h0 : P []) (hs : ∀ l x, P l → P (l ++ [x])) (l : List α) : P l := by
  rw [← List.reverse_reverse l]
  generalize l.reverse = m
  induction m with
  | nil => exact h0
  | cons x m ih => rw [List.reverse_cons]; exact hs _ _ ih
/-- No number is that of both sorts. -/
def onceB (l : List (Hd × Fo)) : Bool := l.all fun a => l.all fun b => !(decide (a.1.op = 7) && decide (b.1.op = 10) && decide (a.1.n = b.1.n))
def isVarB (op : Int) : Bool := decide (op = 7) || decide (op = 10)
/-- The Op with which a number came last. -/
def opsOf (l : List (Hd × Fo)) (n : Int) : Option Int := l.foldl (fun o p => if isVarB p.1.op ∧ p.1.n = n then some p.1.op else o) Option.none
/-- Each variable has the Op with which its number came. -/
def soundFrom : List (Hd × Fo) → List (Hd × Fo) → Bool
  | _, [] => true
  | pre, p :: r => fitsB p.1 p.2 && (!isVarB p.1.op || (match opsOf pre p.1.n with | some o => decide (o = p.1.op) | Option.none => true)) && soundFrom (pre ++ [p]) r

theorem opsOf_snoc (l : List (Hd × Fo)) (p : Hd × Fo) (n : Int) : opsOf (l ++ [p]) n = if isVarB p.1.op ∧ p.1.n = n then some p.1.op else opsOf l n := by
  simp [opsOf, List.foldl_append]

/-- While nothing has failed: the Op kept of a number is that of each variable of that number. -/
theorem opsOf_all {l : List (Hd × Fo)} (hl : onceB l = true) (n : Int) : ∀ p ∈ l, isVarB p.1.op = true → p.1.n = n → opsOf l n = some p.1.op := by
  have key : ∀ (m : List (Hd × Fo)), (∀ x ∈ m, x ∈ l) → (∀ p ∈ m, isVarB p.1.op = true → p.1.n = n → opsOf m n = some p.1.op) := by
    intro m
    refine snoc_ind (P := fun m => (∀ x ∈ m, x ∈ l) → (∀ p ∈ m, isVarB p.1.op = true → p.1.n = n → opsOf m n = some p.1.op)) ?_ ?_ m
    · intro _ p hp; cases hp
    · intro m q ih hm p hp hv hn
      rw [opsOf_snoc]
      by_cases hq : isVarB q.1.op = true ∧ q.1.n = n
      · rw [if_pos hq]
        have hpl := hm p hp
        have hql := hm q (by simp)
        have h1 := (List.all_eq_true.1 ((List.all_eq_true.1 hl) p hpl)) q hql
        have h2 := (List.all_eq_true.1 ((List.all_eq_true.1 hl) q hql)) p hpl
        obtain ⟨hq1, hq2⟩ := hq
        simp [isVarB] at hv hq1
        simp at h1 h2
        rcases hv with hv | hv <;> rcases hq1 with hq1 | hq1 <;> rw [hv, hq1] <;> exfalso
        · rcases h1 with (h1 | h1) | h1
          · exact h1 hv
          · exact h1 hq1
          · exact h1 (by rw [hn, hq2])
        · rcases h2 with (h2 | h2) | h2
          · exact h2 hq1
          · exact h2 hv
          · exact h2 (by rw [hn, hq2])
      · rw [if_neg hq]
        have hpm : p ∈ m := by
          rcases List.mem_append.1 hp with h | h
          · exact h
          · simp at h; subst h; exact absurd ⟨hv, hn⟩ hq
        exact ih (fun x hx => hm x (by simp [hx])) p hpm hv hn
  exact key l (fun x hx => hx)
theorem opsOf_none {l : List (Hd × Fo)} {n : Int} (h : ∀ p ∈ l, isVarB p.1.op = true → p.1.n ≠ n) : opsOf l n = Option.none := by
  revert h
  refine snoc_ind (P := fun l => (∀ p ∈ l, isVarB p.1.op = true → p.1.n ≠ n) → opsOf l n = Option.none) (fun _ => rfl) ?_ l
  intro m q ih h
  rw [opsOf_snoc, if_neg (fun hc => h q (by simp) hc.1 hc.2)]
  exact ih fun p hp => h p (by simp [hp])

theorem onceB_snoc (l : List (Hd × Fo)) (p : Hd × Fo) (hl : onceB l = true) :
    onceB (l ++ [p]) = (!isVarB p.1.op || (match opsOf l p.1.n with | some o => decide (o = p.1.op) | Option.none => true)) := by
  rw [Bool.eq_iff_iff]
  constructor
  · intro h
    by_cases hv : isVarB p.1.op = true
    · cases ho : opsOf l p.1.n with
      | none => simp
      | some o =>
        simp [hv]
        have := opsOf_all h p.1.n p (by simp) hv rfl
        by_cases hx : ∃ q ∈ l, isVarB q.1.op = true ∧ q.1.n = p.1.n
        · obtain ⟨q, hq, hq1, hq2⟩ := hx
          have e1 := opsOf_all hl p.1.n q hq hq1 hq2
          have e2 := opsOf_all h p.1.n q (by simp [hq]) hq1 hq2
          rw [e1] at ho; rw [e2] at this
          have e3 := Option.some.inj ho; have e4 := Option.some.inj this
          rw [← e3, ← e4]
        · rw [opsOf_none (fun q hq h1 h2 => hx ⟨q, hq, h1, h2⟩)] at ho; cases ho
    · simp [hv]
  · intro h
    have hp : ∀ q ∈ l, isVarB q.1.op = true → isVarB p.1.op = true → q.1.n = p.1.n → q.1.op = p.1.op := by
      intro q hq h1 h2 h3
      rw [opsOf_all hl p.1.n q hq h1 h3] at h
      simpa [h2] using h
    have hl2 := List.all_eq_true.1 hl
    refine List.all_eq_true.2 fun a ha => List.all_eq_true.2 fun b hb => ?_
    rcases List.mem_append.1 ha with ha | ha <;> rcases List.mem_append.1 hb with hb | hb
    · exact (List.all_eq_true.1 (hl2 a ha)) b hb
    · simp at hb; subst hb
      rw [Bool.not_eq_true', Bool.eq_false_iff]
      intro hc
      simp only [Bool.and_eq_true, decide_eq_true_eq] at hc
      obtain ⟨⟨h1, h2⟩, h3⟩ := hc
      have := hp a (by assumption) (by simp [isVarB, h1]) (by simp [isVarB, h2]) h3
      omega
    · simp at ha; subst ha
      rw [Bool.not_eq_true', Bool.eq_false_iff]
      intro hc
      simp only [Bool.and_eq_true, decide_eq_true_eq] at hc
      obtain ⟨⟨h1, h2⟩, h3⟩ := hc
      have := hp b (by assumption) (by simp [isVarB, h2]) (by simp [isVarB, h1]) h3.symm
      omega
    · simp at ha hb; subst ha; subst hb
      rw [Bool.not_eq_true', Bool.eq_false_iff]
      intro hc
      simp only [Bool.and_eq_true, decide_eq_true_eq] at hc
      omega

theorem onceB_pre {l : List (Hd × Fo)} {p : Hd × Fo} (h : onceB (l ++ [p]) = true) : onceB l = true := by
  have h2 := List.all_eq_true.1 h
  exact List.all_eq_true.2 fun a ha => List.all_eq_true.2 fun b hb => (List.all_eq_true.1 (h2 a (by simp [ha]))) b (by simp [hb])

theorem onceB_pre2 {l m : List (Hd × Fo)} (h : onceB (l ++ m) = true) : onceB l = true := by
  have h2 := List.all_eq_true.1 h
  exact List.all_eq_true.2 fun a ha => List.all_eq_true.2 fun b hb => (List.all_eq_true.1 (h2 a (by simp [ha]))) b (by simp [hb])

theorem soundFrom_eq (r : List (Hd × Fo)) : ∀ pre : List (Hd × Fo), onceB pre = true → soundFrom pre r = (fitsAll r && onceB (pre ++ r)) := by
  induction r with
  | nil => intro pre h; simp [soundFrom, fitsAll, h]
  | cons p r ih =>
    intro pre h
    have e := onceB_snoc pre p h
    simp only [soundFrom]
    rw [← e]
    by_cases h2 : onceB (pre ++ [p]) = true
    · rw [ih _ h2, h2, List.append_assoc]; simp [fitsAll]; cases fitsB p.1 p.2 <;> simp
    · have h3 : onceB (pre ++ p :: r) = false := by
        rw [Bool.eq_false_iff]; intro hc
        apply h2
        have : pre ++ p :: r = (pre ++ [p]) ++ r := by simp
        rw [this] at hc
        exact onceB_pre2 hc
      rw [Bool.not_eq_true] at h2
      rw [h2, h3]; simp

/-- Is a tree right, of the sort s? -/
def rightB (h : Hd) (k : Fo) (s : Nat) : Bool := (Fo.cons h k .nil).shapes [s] && onceB (Fo.cons h k .nil).flat
theorem rightB_eq (h : Hd) (k : Fo) (s : Nat) (hs : s = 1 ∨ s = 2) : rightB h k s = (decide (sortO h.op = s) && soundFrom [] (Fo.cons h k .nil).flat) := by
  unfold rightB
  rw [Fo.shapes_eq _ [s] (by intro x hx; simp at hx; omega), soundFrom_eq _ [] rfl]
  simp [Fo.sorts]
  cases decide (sortO h.op = s) <;> simp

end Go.Proofs.Ytmjijmkdeblefaa
