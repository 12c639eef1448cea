/- A type among the arguments, opened. -/
import Derived.Test.YtmjijmkdeblefaaRows
import Derived.Test.YtmjijmkdeblefaaLawA
import Derived.WalkKit
import Derived.ProofKit
import Derived.OpenShut
import Derived.JoinedCond
namespace Go.Proofs.Ytmjijmkdeblefaa
open Go.ChangeShapes Go.WideShapes Go.ChangeAt Go.RowKit LM
set_option linter.unusedVariables false

theorem four {cs : List Value} (h : cs.length = 4) : ∃ v0 v1 v2 v3, cs = [v0, v1, v2, v3] := by
  match cs, h with
  | [v0, v1, v2, v3], _ => exact ⟨v0, v1, v2, v3, rfl⟩

section
variable {H : Type} {enc : TypeId × Value → H} {w : World} {base : Nat} {spare : Nat → Bool} {held : Bool}

theorem bulk_mem {d : DataW H} {l : List (DataW H)} (h : d ∈ l) : Rows.uptoBulk d ≤ Rows.uptoBulkAll l := by
  induction l with
  | nil => cases h
  | cons x r ih =>
    simp only [Rows.uptoBulkAll]
    rcases List.mem_cons.1 h with rfl | e
    · omega
    · have := ih e; omega

theorem addr_plain {a : Addr} {v : Value} (h : w.cell? a = some v) : ∃ b off, a = ⟨b, off, none⟩ := by
  have hs : a.spot = none := World.cell?_spot h
  obtain ⟨b, off, spot⟩ := a
  subst hs
  exact ⟨b, off, rfl⟩

/-- What the reading of a type tells. -/
def TyOpen (w : World) (cs : List Value) (d : DataW H) : Prop :=
  ∃ (h : Hd) (k : Fo) (q : Option Addr) (cap : Nat), cs = [.int .u8 h.op, .string h.name, .int .i64 h.n, .slice q k.len cap] ∧ h.ok ∧ k.ok ∧ SlF w q cap k ∧ 1 + k.size ≤ Rows.uptoBulk d

theorem kids_open : ∀ (elems : List (DataW H)) (b o : Nat),
    (∀ i (hi : i < elems.length), ∃ cs, TyOpen w cs elems[i] ∧ ∀ j, j < 4 → w.cell? ⟨b, o + i * 4 + j, none⟩ = cs[j]?) → ∃ f : Fo, f.len = elems.length ∧ f.ok ∧ FoAt w f b o ∧ f.size ≤ Rows.uptoBulkAll elems := by
  intro elems
  induction elems with
  | nil => intro b o _; exact ⟨.nil, rfl, trivial, trivial, Nat.le_refl _⟩
  | cons d r ih =>
    intro b o hx
    obtain ⟨cs, ⟨h, k, q, cap, rfl, hh, hk, hs, hb⟩, hc⟩ := hx 0 (by simp)
    obtain ⟨f, h1, h2, h3, h4⟩ := ih b (o + 4) (fun i hi => by
      obtain ⟨cs, t, c⟩ := hx (i + 1) (by simpa using hi)
      refine ⟨cs, by simpa using t, fun j hj => ?_⟩
      have := c j hj
      rw [show o + (i + 1) * 4 + j = o + 4 + i * 4 + j by omega] at this
      exact this)
    refine ⟨.cons h k f, by simp [Fo.len, h1], ⟨hh, hk, h2⟩, ⟨q, cap, ⟨?_, ?_, ?_, ?_, hs.lc, hs.cm⟩, hs.at_, h3⟩, ?_⟩
    · simpa using hc 0 (by omega)
    · simpa using hc 1 (by omega)
    · simpa using hc 2 (by omega)
    · simpa using hc 3 (by omega)
    · simp only [List.getElem_cons_zero] at hb
      simp only [Fo.size, Rows.uptoBulkAll]; omega

theorem ty_open : ∀ (fuel : Nat) (cs : List Value) (x : DataW H × List MemPlace), DataW.trod enc Try.prog w base spare held fuel 25 cs = some x → TyOpen w cs x.1 := by
  intro fuel
  induction fuel using Nat.strongRecOn with
  | ind fuel ih =>
    intro cs x h
    have cT : Try.prog.cellsOf 25 = 4 := by kernel_rfl
    have c8 : Try.prog.cellsOf 22 = 1 := by kernel_rfl
    have c64 : Try.prog.cellsOf 3 = 1 := by kernel_rfl
    have cS : Try.prog.cellsOf 9 = 1 := by kernel_rfl
    have cK : Try.prog.cellsOf 23 = 1 := by kernel_rfl
    obtain ⟨xs, n, rfl, rfl, hl, hx, hf⟩ := DataW.trod_struct Try.underlying25 h
    rw [cT] at hl
    obtain ⟨v0, v1, v2, v3, rfl⟩ := four hl
    have g0 : DataW.trod enc Try.prog w base spare held n 22 ((List.drop 0 [v0, v1, v2, v3]).take (Try.prog.cellsOf 22)) = xs[0]? := hf 0 _ rfl
    have g1 : DataW.trod enc Try.prog w base spare held n 9 ((List.drop 1 [v0, v1, v2, v3]).take (Try.prog.cellsOf 9)) = xs[1]? := hf 1 _ rfl
    have g2 : DataW.trod enc Try.prog w base spare held n 3 ((List.drop 2 [v0, v1, v2, v3]).take (Try.prog.cellsOf 3)) = xs[2]? := hf 2 _ rfl
    have g3 : DataW.trod enc Try.prog w base spare held n 23 ((List.drop 3 [v0, v1, v2, v3]).take (Try.prog.cellsOf 23)) = xs[3]? := hf 3 _ rfl
    rw [c8] at g0
    rw [cS] at g1
    rw [c64] at g2
    rw [cK] at g3
    have hs : xs.length = 4 := hx
    rw [List.getElem?_eq_getElem (by omega)] at g0 g1 g2 g3
    obtain ⟨a0, e0, _, w0⟩ := DataW.trod_int Try.underlying22 g0
    obtain ⟨a1, e1, _, w1⟩ := DataW.trod_string Try.underlying9 g1
    obtain ⟨a2, e2, _, w2⟩ := DataW.trod_int Try.underlying3 g2
    have e0' : v0 = .int .u8 a0 := by simpa using e0
    have e1' : v1 = .string a1 := by simpa using e1
    have e2' : v2 = .int .i64 a2 := by simpa using e2
    subst e0' e1' e2'
    have b0 : 0 ≤ a0 ∧ a0 ≤ 255 := by simpa [Lit.wf, IntKind.min, IntKind.max, IntKind.signed, IntKind.bits] using w0
    have b2 : -9223372036854775808 ≤ a2 ∧ a2 ≤ 9223372036854775807 := by simpa [Lit.wf, IntKind.min, IntKind.max, IntKind.signed, IntKind.bits] using w2
    have hok : Hd.ok ⟨a0, a1, a2⟩ := ⟨b0.1, b0.2, w1, b2.1, b2.2⟩
    have hm : xs[3].1 ∈ xs.map (·.1) := List.mem_map.2 ⟨xs[3], List.getElem_mem _, rfl⟩
    have hbm := bulk_mem hm
    have hbulk : Rows.uptoBulk (DataW.agg (xs.map (·.1))) = Rows.uptoBulkAll (xs.map (·.1)) + 1 := by simp only [Rows.uptoBulk]
    rcases DataW.trod_slice Try.underlying23 g3 with ⟨hc, hd⟩ | ⟨a, len, cap, elems, rest, n', rfl, hc, hd, _, hlc, hcm, hel, hx3, _⟩
    · have e3 : v3 = .slice none 0 0 := by simpa using hc
      subst e3
      refine ⟨⟨a0, a1, a2⟩, .nil, none, 0, rfl, hok, trivial, ⟨Nat.le_refl _, by unfold maxLen; omega, fun h0 => by simp [Fo.len] at h0⟩, ?_⟩
      rw [hbulk]; simp only [Fo.size]; omega
    · have e3 : v3 = .slice (some a) len cap := by simpa using hc
      subst e3
      rw [hd] at hbm
      simp only [Rows.uptoBulk] at hbm
      rw [cT] at hx3
      have hk : ∀ i (hi : i < elems.length), ∃ cs, TyOpen w cs elems[i].1 ∧ ∀ j, j < 4 → w.cell? ((a.add (i * 4)).add j) = cs[j]? := by
        intro i hi
        have := hx3 i (by omega)
        rw [List.getElem?_eq_getElem hi] at this
        obtain ⟨cs', hc1, hc2⟩ := Option.bind_eq_some_iff.1 this
        exact ⟨cs', ih n' (by omega) cs' _ hc2, (World.cells?_some hc1).2.2⟩
      by_cases h0 : len = 0
      · subst h0
        refine ⟨⟨a0, a1, a2⟩, .nil, some a, cap, rfl, hok, trivial, ⟨Nat.zero_le _, hcm, fun h0 => by simp [Fo.len] at h0⟩, ?_⟩
        rw [hbulk]; simp only [Fo.size]; omega
      · obtain ⟨b, off, rfl⟩ : ∃ b off, a = ⟨b, off, none⟩ := by
          obtain ⟨cs', ⟨h', k', q', cap', rfl, _⟩, hc'⟩ := hk 0 (by omega)
          have := hc' 0 (by omega)
          simp [Addr.add] at this
          exact addr_plain this
        obtain ⟨f, f1, f2, f3, f4⟩ := kids_open (elems.map (·.1)) b off (fun i hi => by
          rw [List.length_map] at hi
          obtain ⟨cs', t, c⟩ := hk i hi
          refine ⟨cs', by simpa using t, fun j hj => ?_⟩
          have := c j hj
          rw [Addr.add_lit, Addr.add_lit] at this
          exact this)
        rw [List.length_map, hel] at f1
        refine ⟨⟨a0, a1, a2⟩, f, some ⟨b, off, none⟩, cap, by rw [f1], hok, f2, ⟨by omega, hcm, fun _ => ⟨b, off, rfl, f3⟩⟩, ?_⟩
        rw [hbulk]; omega
end

end Go.Proofs.Ytmjijmkdeblefaa
