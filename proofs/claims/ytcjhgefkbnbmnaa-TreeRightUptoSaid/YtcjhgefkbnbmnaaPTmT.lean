/- A term among the arguments, opened. -/
import Derived.Test.YtcjhgefkbnbmnaaPTmD
import Derived.Test.YtcjhgefkbnbmnaaPE
namespace Go.Proofs.Ytcjhgefkbnbmnaa
open Go.ChangeShapes Go.WideShapes Go.ChangeAt Go.RowKit LM
set_option linter.unusedVariables false

theorem ten {cs : List Value} (h : cs.length = 10) : ∃ v0 v1 v2 v3 v4 v5 v6 v7 v8 v9, cs = [v0, v1, v2, v3, v4, v5, v6, v7, v8, v9] := by
  match cs, h with
  | [v0, v1, v2, v3, v4, v5, v6, v7, v8, v9], _ => exact ⟨v0, v1, v2, v3, v4, v5, v6, v7, v8, v9, rfl⟩
theorem seven {α : Type} {xs : List α} (h : xs.length = 7) : ∃ x0 x1 x2 x3 x4 x5 x6, xs = [x0, x1, x2, x3, x4, x5, x6] := by
  match xs, h with
  | [x0, x1, x2, x3, x4, x5, x6], _ => exact ⟨x0, x1, x2, x3, x4, x5, x6, rfl⟩

section
variable {H : Type} {enc : TypeId × Value → H} {w : World} {base : Nat} {spare : Nat → Bool} {held : Bool}

/-- What the reading of a term tells. -/
def TmOpen (w : World) (cs : List Value) (d : DataW H) : Prop :=
  ∃ (h : TH) (k : TF) (qa : Option Addr) (ca : Nat) (q : Option Addr) (cap : Nat), cs = (tmV h qa ca q k.len cap).toList ∧ h.ok ∧ k.ok ∧ SlF w qa ca h.ak ∧ TSl w q cap k ∧ 1 + h.ak.size + k.bulk ≤ Rows.uptoBulk d

theorem tkids_open : ∀ (elems : List (DataW H)) (b o : Nat),
    (∀ i (hi : i < elems.length), ∃ cs, TmOpen w cs elems[i] ∧ ∀ j, j < 10 → w.cell? ⟨b, o + i * 10 + j, none⟩ = cs[j]?) → ∃ f : TF, f.len = elems.length ∧ f.ok ∧ TFAt w f b o ∧ f.bulk ≤ Rows.uptoBulkAll elems := by
  intro elems
  induction elems with
  | nil => intro b o _; exact ⟨.nil, rfl, trivial, trivial, Nat.le_refl _⟩
  | cons d r ih =>
    intro b o hx
    obtain ⟨cs, ⟨h, k, qa, ca, q, cap, rfl, hh, hk, ha, hs, hb⟩, hc⟩ := hx 0 (by simp)
    obtain ⟨f, h1, h2, h3, h4⟩ := ih b (o + 10) (fun i hi => by
      obtain ⟨cs, t, c⟩ := hx (i + 1) (by simpa using hi)
      refine ⟨cs, by simpa using t, fun j hj => ?_⟩
      have := c j hj
      rw [show o + (i + 1) * 10 + j = o + 10 + i * 10 + j by omega] at this
      exact this)
    refine ⟨.cons h k f, by simp [TF.len, h1], ⟨hh, hk, h2⟩, ⟨qa, ca, q, cap, ⟨?_, ?_, ?_, ?_, ?_, ?_, ?_, ?_, ?_, ?_, hs.lc, hs.cm⟩, ha, hs.at_, h3⟩, ?_⟩
    · simpa using hc 0 (by omega)
    · simpa using hc 1 (by omega)
    · simpa using hc 2 (by omega)
    · simpa using hc 3 (by omega)
    · simpa using hc 4 (by omega)
    · simpa using hc 5 (by omega)
    · simpa using hc 6 (by omega)
    · simpa using hc 7 (by omega)
    · simpa using hc 8 (by omega)
    · simpa using hc 9 (by omega)
    · simp only [List.getElem_cons_zero] at hb
      simp only [TF.bulk, Rows.uptoBulkAll]; omega

theorem tm_open : ∀ (fuel : Nat) (cs : List Value) (x : DataW H × List MemPlace), DataW.trod enc Try.prog w base spare held fuel 43 cs = some x → TmOpen w cs x.1 := by
  intro fuel
  induction fuel using Nat.strongRecOn with
  | ind fuel ih =>
    intro cs x h
    have cM : Try.prog.cellsOf 43 = 10 := by kernel_rfl
    have cT : Try.prog.cellsOf 25 = 4 := by kernel_rfl
    have c8 : Try.prog.cellsOf 22 = 1 := by kernel_rfl
    have c64 : Try.prog.cellsOf 2 = 1 := by kernel_rfl
    have cB : Try.prog.cellsOf 4 = 1 := by kernel_rfl
    have cS : Try.prog.cellsOf 9 = 1 := by kernel_rfl
    have cK : Try.prog.cellsOf 41 = 1 := by kernel_rfl
    obtain ⟨xs, n, rfl, rfl, hl, hx, hf⟩ := DataW.trod_struct Try.underlying43 h
    rw [cM] at hl
    obtain ⟨v0, v1, v2, v3, v4, v5, v6, v7, v8, v9, rfl⟩ := ten hl
    have hs7 : xs.length = 7 := hx
    obtain ⟨x0, x1, x2, x3, x4, x5, x6, rfl⟩ := seven hs7
    have g0 : DataW.trod enc Try.prog w base spare held n 22 ((List.drop 0 [v0, v1, v2, v3, v4, v5, v6, v7, v8, v9]).take (Try.prog.cellsOf 22)) = some x0 := hf 0 _ rfl
    have g1 : DataW.trod enc Try.prog w base spare held n 9 ((List.drop 1 [v0, v1, v2, v3, v4, v5, v6, v7, v8, v9]).take (Try.prog.cellsOf 9)) = some x1 := hf 1 _ rfl
    have g2 : DataW.trod enc Try.prog w base spare held n 9 ((List.drop 2 [v0, v1, v2, v3, v4, v5, v6, v7, v8, v9]).take (Try.prog.cellsOf 9)) = some x2 := hf 2 _ rfl
    have g3 : DataW.trod enc Try.prog w base spare held n 2 ((List.drop 3 [v0, v1, v2, v3, v4, v5, v6, v7, v8, v9]).take (Try.prog.cellsOf 2)) = some x3 := hf 3 _ rfl
    have g4 : DataW.trod enc Try.prog w base spare held n 4 ((List.drop 4 [v0, v1, v2, v3, v4, v5, v6, v7, v8, v9]).take (Try.prog.cellsOf 4)) = some x4 := hf 4 _ rfl
    have g5 : DataW.trod enc Try.prog w base spare held n 25 ((List.drop 5 [v0, v1, v2, v3, v4, v5, v6, v7, v8, v9]).take (Try.prog.cellsOf 25)) = some x5 := hf 5 _ rfl
    have g6 : DataW.trod enc Try.prog w base spare held n 41 ((List.drop 9 [v0, v1, v2, v3, v4, v5, v6, v7, v8, v9]).take (Try.prog.cellsOf 41)) = some x6 := hf 6 _ rfl
    rw [c8] at g0
    rw [cS] at g1 g2
    rw [c64] at g3
    rw [cB] at g4
    rw [cT] at g5
    rw [cK] at g6
    obtain ⟨a0, e0, _, w0⟩ := DataW.trod_int Try.underlying22 g0
    obtain ⟨a1, e1, _, w1⟩ := DataW.trod_string Try.underlying9 g1
    obtain ⟨a2, e2, _, w2⟩ := DataW.trod_string Try.underlying9 g2
    obtain ⟨a3, e3, _, w3⟩ := DataW.trod_int Try.underlying2 g3
    obtain ⟨a4, e4, _⟩ := DataW.trod_bool Try.underlying4 g4
    obtain ⟨ah, ak, qa, ca, e5, hah, hak, hsa, hba⟩ := ty_open n _ _ g5
    have e0' : v0 = .int .u8 a0 := by simpa using e0
    have e1' : v1 = .string a1 := by simpa using e1
    have e2' : v2 = .string a2 := by simpa using e2
    have e3' : v3 = .int .i64 a3 := by simpa using e3
    have e4' : v4 = .bool a4 := by simpa using e4
    have e5' : v5 = .int .u8 ah.op ∧ v6 = .string ah.name ∧ v7 = .int .i64 ah.n ∧ v8 = .slice qa ak.len ca := by simpa using e5
    obtain ⟨rfl, rfl, rfl, rfl⟩ := e5'
    subst e0' e1' e2' e3' e4'
    have b0 : 0 ≤ a0 ∧ a0 ≤ 255 := by simpa [Lit.wf, IntKind.min, IntKind.max, IntKind.signed, IntKind.bits] using w0
    have b3 : -9223372036854775808 ≤ a3 ∧ a3 ≤ 9223372036854775807 := by simpa [Lit.wf, IntKind.min, IntKind.max, IntKind.signed, IntKind.bits] using w3
    have hok : TH.ok ⟨a0, a1, a2, a3, a4, ah, ak⟩ := ⟨b0.1, b0.2, w1, w2, b3.1, b3.2, hah, hak⟩
    have hbulk : Rows.uptoBulk (DataW.agg ([x0, x1, x2, x3, x4, x5, x6].map (·.1))) = Rows.uptoBulkAll ([x0, x1, x2, x3, x4, x5, x6].map (·.1)) + 1 := by simp only [Rows.uptoBulk]
    have hall : Rows.uptoBulk x5.1 + Rows.uptoBulk x6.1 ≤ Rows.uptoBulkAll ([x0, x1, x2, x3, x4, x5, x6].map (·.1)) := by simp only [List.map_cons, List.map_nil, Rows.uptoBulkAll]; omega
    generalize Rows.uptoBulkAll ([x0, x1, x2, x3, x4, x5, x6].map (·.1)) = T at hbulk hall
    rcases DataW.trod_slice Try.underlying41 g6 with ⟨hc, hd⟩ | ⟨a, len, cap, elems, rest, n', rfl, hc, hd, _, hlc, hcm, hel, hx3, _⟩
    · have e9 : v9 = .slice none 0 0 := by simpa using hc
      subst e9
      refine ⟨⟨a0, a1, a2, a3, a4, ah, ak⟩, .nil, qa, ca, none, 0, rfl, hok, trivial, hsa, ⟨Nat.le_refl _, by unfold maxLen; omega, fun h0 => by simp [TF.len] at h0⟩, ?_⟩
      rw [hbulk]; simp only [TF.bulk]; omega
    · have e9 : v9 = .slice (some a) len cap := by simpa using hc
      subst e9
      rw [hd] at hall
      simp only [Rows.uptoBulk] at hall
      rw [cM] at hx3
      have hk : ∀ i (hi : i < elems.length), ∃ cs, TmOpen w cs elems[i].1 ∧ ∀ j, j < 10 → w.cell? ((a.add (i * 10)).add j) = cs[j]? := by
        intro i hi
        have := hx3 i (by omega)
        rw [List.getElem?_eq_getElem hi] at this
        obtain ⟨cs', hc1, hc2⟩ := Option.bind_eq_some_iff.1 this
        exact ⟨cs', ih n' (by omega) cs' _ hc2, (World.cells?_some hc1).2.2⟩
      by_cases h0 : len = 0
      · subst h0
        refine ⟨⟨a0, a1, a2, a3, a4, ah, ak⟩, .nil, qa, ca, some a, cap, rfl, hok, trivial, hsa, ⟨Nat.zero_le _, hcm, fun h0 => by simp [TF.len] at h0⟩, ?_⟩
        rw [hbulk]; simp only [TF.bulk]; omega
      · obtain ⟨b, off, rfl⟩ : ∃ b off, a = ⟨b, off, none⟩ := by
          obtain ⟨cs', ⟨h', k', qa', ca', q', cap', rfl, _⟩, hc'⟩ := hk 0 (by omega)
          have := hc' 0 (by omega)
          simp [Addr.add] at this
          exact addr_plain this
        obtain ⟨f, f1, f2, f3, f4⟩ := tkids_open (elems.map (·.1)) b off (fun i hi => by
          rw [List.length_map] at hi
          obtain ⟨cs', t, c⟩ := hk i hi
          refine ⟨cs', by simpa using t, fun j hj => ?_⟩
          have := c j hj
          rw [Addr.add_lit, Addr.add_lit] at this
          exact this)
        rw [List.length_map, hel] at f1
        refine ⟨⟨a0, a1, a2, a3, a4, ah, ak⟩, f, qa, ca, some ⟨b, off, none⟩, cap, by rw [f1], hok, f2, hsa, ⟨by omega, hcm, fun _ => ⟨b, off, rfl, f3⟩⟩, ?_⟩
        rw [hbulk]; simp only; omega
end

end Go.Proofs.Ytcjhgefkbnbmnaa
