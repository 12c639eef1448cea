/- Put of whatever, and the law's words. -/
import Derived.Test.YtmjijmkdeblefaaKpF
import Derived.Test.YtmjijmkdeblefaaLawA
namespace Go.Proofs.Ytmjijmkdeblefaa
open Go.RowKit LM
set_option linter.unusedVariables false

theorem Fo.ok_put {op n : Int} {H : Hd} {K : Fo} (hH : H.ok) (hK : K.ok) : ∀ {f : Fo}, f.ok → (Fo.putF op n H K f).ok
  | .nil, _ => trivial
  | .cons h k r, ⟨h1, h2, h3⟩ => by
    simp only [Fo.putF]
    split
    · exact ⟨hH, hK, Fo.ok_put hH hK h3⟩
    · exact ⟨h1, Fo.ok_put hH hK h2, Fo.ok_put hH hK h3⟩
/-- The tree that Put answers. -/
def putTree (n : Int) (H : Hd) (K : Fo) (h : Hd) (k : Fo) : Hd × Fo :=
  if riB h k = true then (if rightB H K 1 = true then putT 7 n H K h k else if rightB H K 2 = true then putT 10 n H K h k else (h, k)) else (h, k)
theorem right_not {H : Hd} {K : Fo} (h : rightB H K 1 = true) : sortO H.op = 1 := by
  rw [rightB_eq H K 1 (.inl rfl)] at h; simp at h; exact h.1
theorem right_not2 {H : Hd} {K : Fo} (h : rightB H K 2 = true) : sortO H.op = 2 := by
  rw [rightB_eq H K 2 (.inr rfl)] at h; simp at h; exact h.1
theorem putT_ok {op n : Int} {H : Hd} {K : Fo} {h : Hd} {k : Fo} (hh : h.ok) (hk : k.ok) (hH : H.ok) (hK : K.ok) : (putT op n H K h k).1.ok ∧ (putT op n H K h k).2.ok := by
  unfold putT; split
  · exact ⟨hH, hK⟩
  · exact ⟨hh, Fo.ok_put hH hK hk⟩
theorem putTree_ok {n : Int} {H : Hd} {K : Fo} {h : Hd} {k : Fo} (hh : h.ok) (hk : k.ok) (hH : H.ok) (hK : K.ok) : (putTree n H K h k).1.ok ∧ (putTree n H K h k).2.ok := by
  unfold putTree
  split
  · split
    · exact putT_ok hh hk hH hK
    · split
      · exact putT_ok hh hk hH hK
      · exact ⟨hh, hk⟩
  · exact ⟨hh, hk⟩

theorem Put_any (h : Hd) (k : Fo) (q : Option Addr) (cap : Nat) (n : Int) (H : Hd) (K : Fo) (Q : Option Addr) (C : Nat) (w : World) (hh : h.ok) (hs : SlF w q cap k) (hk : k.ok) (hsz : 1 + k.size ≤ 1099511627776)
    (hh' : H.ok) (hs' : SlF w Q C K) (hk' : K.ok) (hsz' : 1 + K.size ≤ 1099511627776) :
    Calls Try.prog 28 #[.agg #[.int .u8 h.op, .string h.name, .int .i64 h.n, .slice q k.len cap], .int .i64 n, .agg #[.int .u8 H.op, .string H.name, .int .i64 H.n, .slice Q K.len C]] w (TrPost w (putTree n H K h k).1 (putTree n H K h k).2) := by
  by_cases h1 : riB h k = true
  · by_cases h2 : rightB H K 1 = true
    · have e : putTree n H K h k = putT 7 n H K h k := by unfold putTree; rw [if_pos h1, if_pos h2]
      rw [e]
      exact Put_yes1 7 rfl h k q cap n H K Q C w hh hs hk hsz hh' hs' hk' hsz' h1 (by unfold riB; rw [h2]; rfl) (right_not h2)
    · by_cases h3 : rightB H K 2 = true
      · have e : putTree n H K h k = putT 10 n H K h k := by unfold putTree; rw [if_pos h1, if_neg h2, if_pos h3]
        rw [e]
        exact Put_yes2 10 rfl h k q cap n H K Q C w hh hs hk hsz hh' hs' hk' hsz' h1 (by unfold riB; rw [h3]; simp) (right_not2 h3)
      · have e : putTree n H K h k = (h, k) := by unfold putTree; rw [if_pos h1, if_neg h2, if_neg h3]
        rw [e]
        refine Put_no h k q cap n H K Q C w hh hs hk hsz hh' hs' hk' hsz' ?_
        have h2' : rightB H K 1 = false := by simpa using h2
        have h3' : rightB H K 2 = false := by simpa using h3
        unfold riB; rw [h2', h3']; simp
  · have e : putTree n H K h k = (h, k) := by unfold putTree; rw [if_neg h1]
    rw [e]
    refine Put_no h k q cap n H K Q C w hh hs hk hsz hh' hs' hk' hsz' ?_
    have h1' : riB h k = false := by simpa using h1
    rw [h1']; simp
end Go.Proofs.Ytmjijmkdeblefaa
