/- TreeCopies: two copies, in two boxes, in whatever order these are made. -/
import Derived.Test.YtcjhgefkbnbmnaaPTmL
import Derived.Test.YtcjhgefkbnbmnaaPTmM
import Derived.Test.YtcjhgefkbnbmnaaPTmH
import Derived.Test.YtcjhgefkbnbmnaaPTmZ
import Derived.Test.YtcjhgefkbnbmnaaPTnB
namespace Go.Proofs.Ytcjhgefkbnbmnaa
open Go.RowKit LM
set_option linter.unusedVariables false

/-- A term of the call's own. -/
def TmOwn (W : World) (h : TH) (k : TF) (qa : Option Addr) (ca : Nat) (q : Option Addr) (cap : Nat) (F : List Nat) : Prop :=
  k.len ≤ cap ∧ cap ≤ maxLen ∧ ∃ Fa Fk, F = Fa ++ Fk ∧ (OwnF W qa h.ak Fa ∧ h.ak.len ≤ ca ∧ ca ≤ maxLen) ∧ TOwn W q k Fk
theorem TmOwn.keep {W W' : World} {h : TH} {k : TF} {qa : Option Addr} {ca : Nat} {q : Option Addr} {cap : Nat} {F : List Nat} (ho : TmOwn W h k qa ca q cap F) (e : ∀ c ∈ F, W'.heap[c]? = W.heap[c]?) : TmOwn W' h k qa ca q cap F := by
  obtain ⟨h1, h2, Fa, Fk, rfl, h3, h4⟩ := ho
  exact ⟨h1, h2, Fa, Fk, rfl, ⟨h3.1.keep (fun c hc => e c (by simp [hc])), h3.2⟩, h4.keep (fun c hc => e c (by simp [hc]))⟩
theorem TmOwn.reads {W : World} {h : TH} {k : TF} {qa : Option Addr} {ca : Nat} {q : Option Addr} {cap : Nat} {F : List Nat} (ho : TmOwn W h k qa ca q cap F) : SlF W qa ca h.ak ∧ TSl W q cap k := by
  obtain ⟨h1, h2, Fa, Fk, rfl, h3, h4⟩ := ho
  exact ⟨h3.1.slF h3.2.1 h3.2.2, h4.tsl h1 h2⟩

/-- What stands between the operations of 'c, d := Copy(t), Copy(t)': d tells which have come up. -/
structure CpS (w2 : World) (h : TH) (k : TF) (V : Value) (d : Nat → Bool) (v3 v4 v11 v12 v13 v14 : Value) (F1 F2 L3 L4 : List Nat) (W : World) : Prop where
  below : Below w2.heap.size w2 W
  a0 : d 0 = true → v11 = V
  a2 : d 2 = true → v13 = V
  nd : (F1 ++ F2 ++ L3 ++ L4).Nodup
  lies : ∀ c ∈ F1 ++ F2 ++ L3 ++ L4, w2.heap.size ≤ c ∧ c < W.heap.size
  a1 : d 1 = true → ∃ qa ca q cap, v12 = .agg (tmV h qa ca q k.len cap) ∧ TmOwn W h k qa ca q cap F1
  a3 : d 3 = true → ∃ qa ca q cap, v14 = .agg (tmV h qa ca q k.len cap) ∧ TmOwn W h k qa ca q cap F2
  a4 : d 4 = true → ∃ B, v3 = .pointer (some ⟨B, 0, none⟩) ∧ L3 = [B] ∧ ∃ cs, W.heap[B]? = some (.cells cs 43 (0, 0)) ∧ (d 6 = false → cs = zT10) ∧ (d 6 = true → v12 = .agg cs)
  a5 : d 5 = true → ∃ B, v4 = .pointer (some ⟨B, 0, none⟩) ∧ L4 = [B] ∧ ∃ cs, W.heap[B]? = some (.cells cs 43 (0, 0)) ∧ (d 7 = false → cs = zT10) ∧ (d 7 = true → v14 = .agg cs)
  d6 : d 6 = true → d 1 = true ∧ d 4 = true
  d7 : d 7 = true → d 3 = true ∧ d 5 = true

section
variable {w2 : World} {h : TH} {k : TF} {V : Value} {d : Nat → Bool} {v3 v4 v11 v12 v13 v14 : Value} {F1 F2 L3 L4 : List Nat} {W W' : World}
theorem CpS.go (s : CpS w2 h k V d v3 v4 v11 v12 v13 v14 F1 F2 L3 L4 W) (hb : Below W.heap.size W W') : CpS w2 h k V d v3 v4 v11 v12 v13 v14 F1 F2 L3 L4 W' := by
  have e : ∀ c ∈ F1 ++ F2 ++ L3 ++ L4, W'.heap[c]? = W.heap[c]? := fun c hc => hb.block c (s.lies c hc).2
  refine ⟨s.below.trans (hb.mono s.below.size), s.a0, s.a2, s.nd, fun c hc => ⟨(s.lies c hc).1, Nat.lt_of_lt_of_le (s.lies c hc).2 hb.size⟩, fun h1 => ?_, fun h1 => ?_, fun h1 => ?_, fun h1 => ?_, s.d6, s.d7⟩
  · obtain ⟨qa, ca, q, cap, e1, e2⟩ := s.a1 h1
    exact ⟨qa, ca, q, cap, e1, e2.keep (fun c hc => e c (by simp [hc]))⟩
  · obtain ⟨qa, ca, q, cap, e1, e2⟩ := s.a3 h1
    exact ⟨qa, ca, q, cap, e1, e2.keep (fun c hc => e c (by simp [hc]))⟩
  · obtain ⟨B, e1, e2, cs, e3, e4⟩ := s.a4 h1
    exact ⟨B, e1, e2, cs, (e B (by simp [e2])).trans e3, e4⟩
  · obtain ⟨B, e1, e2, cs, e3, e4⟩ := s.a5 h1
    exact ⟨B, e1, e2, cs, (e B (by simp [e2])).trans e3, e4⟩
theorem CpS.go0 (s : CpS w2 h k V d v3 v4 v11 v12 v13 v14 F1 F2 L3 L4 W) : CpS w2 h k V (also d 0) v3 v4 V v12 v13 v14 F1 F2 L3 L4 W :=
  ⟨s.below, fun _ => rfl, fun h => s.a2 (by simpa [also] using h), s.nd, s.lies, fun h => s.a1 (by simpa [also] using h), fun h => s.a3 (by simpa [also] using h), by simpa [also] using s.a4, by simpa [also] using s.a5, by simpa [also] using s.d6, by simpa [also] using s.d7⟩
theorem CpS.go2 (s : CpS w2 h k V d v3 v4 v11 v12 v13 v14 F1 F2 L3 L4 W) : CpS w2 h k V (also d 2) v3 v4 v11 v12 V v14 F1 F2 L3 L4 W :=
  ⟨s.below, fun h => s.a0 (by simpa [also] using h), fun _ => rfl, s.nd, s.lies, fun h => s.a1 (by simpa [also] using h), fun h => s.a3 (by simpa [also] using h), by simpa [also] using s.a4, by simpa [also] using s.a5, by simpa [also] using s.d6, by simpa [also] using s.d7⟩
theorem CpS.go1 (s : CpS w2 h k V d v3 v4 v11 v12 v13 v14 F1 F2 L3 L4 W) (hd : d 1 = false) (hb : Below W.heap.size W W') {qa : Option Addr} {ca : Nat} {q : Option Addr} {cap : Nat} {F : List Nat} (ho : TmOwn W' h k qa ca q cap F) (hn : F.Nodup) (hF : ∀ c ∈ F, W.heap.size ≤ c ∧ c < W'.heap.size) :
    CpS w2 h k V (also d 1) v3 v4 v11 (.agg (tmV h qa ca q k.len cap)) v13 v14 F F2 L3 L4 W' := by
  have g := s.go hb
  have h6 : d 6 = false := by cases e : d 6 with | false => rfl | true => rw [(s.d6 e).1] at hd; cases hd
  refine ⟨g.below, fun h => g.a0 (by simpa [also] using h), fun h => g.a2 (by simpa [also] using h), ?_, ?_, fun _ => ⟨qa, ca, q, cap, rfl, ho⟩, fun h => g.a3 (by simpa [also] using h), fun h4 => ?_, by simpa [also] using g.a5, by simp [also, h6], by simpa [also] using g.d7⟩
  · have hn0 := s.nd
    rw [List.append_assoc, List.append_assoc] at hn0 ⊢
    rw [List.nodup_append] at hn0 ⊢
    refine ⟨hn, hn0.2.1, fun a ha b hb' e => ?_⟩
    subst e
    have h1 := s.lies a (by simp at hb' ⊢; grind)
    have := hF a ha
    omega
  · intro c hc
    rw [List.append_assoc, List.append_assoc] at hc
    rcases List.mem_append.1 hc with h1 | h1
    · have := hF c h1; have := s.below.size; omega
    · exact g.lies c (by simp at h1 ⊢; grind)
  · obtain ⟨B, e1, e2, cs, e3, e4, e5⟩ := g.a4 (by simpa [also] using h4)
    exact ⟨B, e1, e2, cs, e3, fun _ => e4 h6, fun h => by simp [also, h6] at h⟩
theorem CpS.go3 (s : CpS w2 h k V d v3 v4 v11 v12 v13 v14 F1 F2 L3 L4 W) (hd : d 3 = false) (hb : Below W.heap.size W W') {qa : Option Addr} {ca : Nat} {q : Option Addr} {cap : Nat} {F : List Nat} (ho : TmOwn W' h k qa ca q cap F) (hn : F.Nodup) (hF : ∀ c ∈ F, W.heap.size ≤ c ∧ c < W'.heap.size) :
    CpS w2 h k V (also d 3) v3 v4 v11 v12 v13 (.agg (tmV h qa ca q k.len cap)) F1 F L3 L4 W' := by
  have g := s.go hb
  have h7 : d 7 = false := by cases e : d 7 with | false => rfl | true => rw [(s.d7 e).1] at hd; cases hd
  refine ⟨g.below, fun h => g.a0 (by simpa [also] using h), fun h => g.a2 (by simpa [also] using h), ?_, ?_, fun h => g.a1 (by simpa [also] using h), fun _ => ⟨qa, ca, q, cap, rfl, ho⟩, by simpa [also] using g.a4, fun h4 => ?_, by simpa [also] using g.d6, by simp [also, h7]⟩
  · have hn0 := s.nd
    have hp : (F1 ++ F2 ++ L3 ++ L4).Perm (F2 ++ (F1 ++ (L3 ++ L4))) := by
      rw [List.append_assoc, List.append_assoc]; exact List.perm_append_comm_assoc _ _ _
    have hp2 : (F1 ++ F ++ L3 ++ L4).Perm (F ++ (F1 ++ (L3 ++ L4))) := by
      rw [List.append_assoc, List.append_assoc]; exact List.perm_append_comm_assoc _ _ _
    rw [hp.nodup_iff] at hn0
    rw [hp2.nodup_iff]
    rw [List.nodup_append] at hn0 ⊢
    refine ⟨hn, hn0.2.1, fun a ha b hb' e => ?_⟩
    subst e
    have h1 := s.lies a (by simp at hb' ⊢; grind)
    have := hF a ha
    omega
  · intro c hc
    simp only [List.mem_append] at hc
    rcases hc with ((h1 | h1) | h1) | h1
    · exact g.lies c (by simp; grind)
    · have := hF c h1; have := s.below.size; omega
    · exact g.lies c (by simp; grind)
    · exact g.lies c (by simp; grind)
  · obtain ⟨B, e1, e2, cs, e3, e4, e5⟩ := g.a5 (by simpa [also] using h4)
    exact ⟨B, e1, e2, cs, e3, fun _ => e4 h7, fun h => by simp [also, h7] at h⟩
theorem CpS.go4 (s : CpS w2 h k V d v3 v4 v11 v12 v13 v14 F1 F2 L3 L4 W) (hd : d 4 = false) : CpS w2 h k V (also d 4) (.pointer (some ⟨W.heap.size, 0, none⟩)) v4 v11 v12 v13 v14 F1 F2 [W.heap.size] L4 (W.alloc (.cells zT10 43)) := by
  have hb := below_box W (.cells zT10 43)
  have g := s.go hb
  have h6 : d 6 = false := by cases e : d 6 with | false => rfl | true => rw [(s.d6 e).2] at hd; cases hd
  refine ⟨g.below, fun h => g.a0 (by simpa [also] using h), fun h => g.a2 (by simpa [also] using h), ?_, ?_, fun h => g.a1 (by simpa [also] using h), fun h => g.a3 (by simpa [also] using h), fun _ => ⟨_, rfl, rfl, _, World.alloc_heap_new W _, fun _ => rfl, fun h => by simp [also, h6] at h⟩, by simpa [also] using g.a5, by simp [also, h6], by simpa [also] using g.d7⟩
  · have hn0 := s.nd
    rw [List.append_assoc, List.nodup_append] at hn0 ⊢
    refine ⟨hn0.1, ?_, fun a ha b hb' e => ?_⟩
    · rw [List.nodup_append]
      refine ⟨by simp, (List.nodup_append.1 hn0.2.1).2.1, fun a ha b hb' e => ?_⟩
      subst e
      simp only [List.mem_singleton] at ha
      have := s.lies a (by simp; grind); omega
    · subst e
      rcases List.mem_append.1 hb' with h1 | h1
      · simp only [List.mem_singleton] at h1
        have := s.lies a (by simp at ha ⊢; grind); omega
      · exact hn0.2.2 a ha a (by simp [h1]) rfl
  · intro c hc
    simp only [List.mem_append, List.mem_singleton] at hc
    rcases hc with (h1 | h1) | h1
    · exact g.lies c (by simp; grind)
    · subst h1; have := s.below.size; simp; omega
    · exact g.lies c (by simp; grind)
theorem CpS.go5 (s : CpS w2 h k V d v3 v4 v11 v12 v13 v14 F1 F2 L3 L4 W) (hd : d 5 = false) : CpS w2 h k V (also d 5) v3 (.pointer (some ⟨W.heap.size, 0, none⟩)) v11 v12 v13 v14 F1 F2 L3 [W.heap.size] (W.alloc (.cells zT10 43)) := by
  have hb := below_box W (.cells zT10 43)
  have g := s.go hb
  have h7 : d 7 = false := by cases e : d 7 with | false => rfl | true => rw [(s.d7 e).2] at hd; cases hd
  refine ⟨g.below, fun h => g.a0 (by simpa [also] using h), fun h => g.a2 (by simpa [also] using h), ?_, ?_, fun h => g.a1 (by simpa [also] using h), fun h => g.a3 (by simpa [also] using h), by simpa [also] using g.a4, fun _ => ⟨_, rfl, rfl, _, World.alloc_heap_new W _, fun _ => rfl, fun h => by simp [also, h7] at h⟩, by simpa [also] using g.d6, by simp [also, h7]⟩
  · have hn0 := s.nd
    rw [List.nodup_append] at hn0 ⊢
    refine ⟨hn0.1, by simp, fun a ha b hb' e => ?_⟩
    subst e
    simp only [List.mem_singleton] at hb'
    have := s.lies a (by simp at ha ⊢; grind); omega
  · intro c hc
    rcases List.mem_append.1 hc with h1 | h1
    · exact g.lies c (by simp at h1 ⊢; grind)
    · simp only [List.mem_singleton] at h1
      subst h1; have := s.below.size; simp; omega
/-- A term is stored into one of the boxes. -/
theorem CpS.go6 (s : CpS w2 h k V d v3 v4 v11 v12 v13 v14 F1 F2 L3 L4 W) {B : Nat} {c0 c1 c2 c3 c4 c5 c6 c7 c8 c9 : Value} (e1 : v3 = .pointer (some ⟨B, 0, none⟩)) (e2 : L3 = [B]) (e3 : W.heap[B]? = some (.cells zT10 43 (0, 0))) (e4 : v12 = .agg #[c0, c1, c2, c3, c4, c5, c6, c7, c8, c9]) (h1 : d 1 = true) (h4 : d 4 = true) :
    CpS w2 h k V (also d 6) v3 v4 v11 v12 v13 v14 F1 F2 L3 L4 (World.set10 W B c0 c1 c2 c3 c4 c5 c6 c7 c8 c9) := by
  have hg := set10_grown W B c0 c1 c2 c3 c4 c5 c6 c7 c8 c9
  have hr := set10_row (W := W) e3 c0 c1 c2 c3 c4 c5 c6 c7 c8 c9
  have hBm : B ∈ F1 ++ F2 ++ L3 ++ L4 := by simp [e2]
  have hBl := s.lies B hBm
  have e : ∀ c ∈ F1 ++ F2 ++ L4, (World.set10 W B c0 c1 c2 c3 c4 c5 c6 c7 c8 c9).heap[c]? = W.heap[c]? := fun c hc => hg.block c (s.lies c (by simp at hc ⊢; grind)).2 (fun e => by
    have e := Option.some.inj e
    subst e
    have hn := s.nd
    rw [e2] at hn
    rw [List.nodup_append, List.nodup_append] at hn
    simp only [List.mem_append] at hc
    rcases hc with (h1 | h1) | h1
    · exact hn.1.2.2 c (by simp [h1]) c (by simp) rfl
    · exact hn.1.2.2 c (by simp [h1]) c (by simp) rfl
    · exact hn.2.2 c (by simp) c h1 rfl)
  generalize World.set10 W B c0 c1 c2 c3 c4 c5 c6 c7 c8 c9 = W' at *
  refine ⟨s.below.grown hg s.below.size (fun r e => by have := Option.some.inj e; omega), fun h => s.a0 (by simpa [also] using h), fun h => s.a2 (by simpa [also] using h), s.nd, fun c hc => ⟨(s.lies c hc).1, Nat.lt_of_lt_of_le (s.lies c hc).2 hg.size⟩, fun h1 => ?_, fun h1 => ?_, fun h1 => ?_, fun h1 => ?_, fun _ => by simp [also, h1, h4], by simpa [also] using s.d7⟩
  · obtain ⟨qa, ca, q, cap, e1, e2⟩ := s.a1 (by simpa [also] using h1)
    exact ⟨qa, ca, q, cap, e1, e2.keep (fun c hc => e c (by simp [hc]))⟩
  · obtain ⟨qa, ca, q, cap, e1, e2⟩ := s.a3 (by simpa [also] using h1)
    exact ⟨qa, ca, q, cap, e1, e2.keep (fun c hc => e c (by simp [hc]))⟩
  · exact ⟨B, e1, e2, _, hr, fun h => by simp [also] at h, fun _ => e4⟩
  · obtain ⟨B', e1, e2, cs, e3, e4⟩ := s.a5 (by simpa [also] using h1)
    exact ⟨B', e1, e2, cs, (e B' (by simp [e2])).trans e3, by simpa [also] using e4⟩
theorem CpS.go7 (s : CpS w2 h k V d v3 v4 v11 v12 v13 v14 F1 F2 L3 L4 W) {B : Nat} {c0 c1 c2 c3 c4 c5 c6 c7 c8 c9 : Value} (e1 : v4 = .pointer (some ⟨B, 0, none⟩)) (e2 : L4 = [B]) (e3 : W.heap[B]? = some (.cells zT10 43 (0, 0))) (e4 : v14 = .agg #[c0, c1, c2, c3, c4, c5, c6, c7, c8, c9]) (h1 : d 3 = true) (h4 : d 5 = true) :
    CpS w2 h k V (also d 7) v3 v4 v11 v12 v13 v14 F1 F2 L3 L4 (World.set10 W B c0 c1 c2 c3 c4 c5 c6 c7 c8 c9) := by
  have hg := set10_grown W B c0 c1 c2 c3 c4 c5 c6 c7 c8 c9
  have hr := set10_row (W := W) e3 c0 c1 c2 c3 c4 c5 c6 c7 c8 c9
  have hBm : B ∈ F1 ++ F2 ++ L3 ++ L4 := by simp [e2]
  have hBl := s.lies B hBm
  have e : ∀ c ∈ F1 ++ F2 ++ L3, (World.set10 W B c0 c1 c2 c3 c4 c5 c6 c7 c8 c9).heap[c]? = W.heap[c]? := fun c hc => hg.block c (s.lies c (by simp at hc ⊢; grind)).2 (fun e => by
    have e := Option.some.inj e
    subst e
    have hn := s.nd
    rw [e2] at hn
    rw [List.nodup_append] at hn
    exact hn.2.2 c hc c (by simp) rfl)
  generalize World.set10 W B c0 c1 c2 c3 c4 c5 c6 c7 c8 c9 = W' at *
  refine ⟨s.below.grown hg s.below.size (fun r e => by have := Option.some.inj e; omega), fun h => s.a0 (by simpa [also] using h), fun h => s.a2 (by simpa [also] using h), s.nd, fun c hc => ⟨(s.lies c hc).1, Nat.lt_of_lt_of_le (s.lies c hc).2 hg.size⟩, fun h1 => ?_, fun h1 => ?_, fun h1 => ?_, fun h1 => ?_, by simpa [also] using s.d6, fun _ => by simp [also, h1, h4]⟩
  · obtain ⟨qa, ca, q, cap, e1, e2⟩ := s.a1 (by simpa [also] using h1)
    exact ⟨qa, ca, q, cap, e1, e2.keep (fun c hc => e c (by simp [hc]))⟩
  · obtain ⟨qa, ca, q, cap, e1, e2⟩ := s.a3 (by simpa [also] using h1)
    exact ⟨qa, ca, q, cap, e1, e2.keep (fun c hc => e c (by simp [hc]))⟩
  · obtain ⟨B', e1, e2, cs, e3, e4⟩ := s.a4 (by simpa [also] using h1)
    exact ⟨B', e1, e2, cs, (e B' (by simp [e2])).trans e3, by simpa [also] using e4⟩
  · exact ⟨B, e1, e2, _, hr, fun h => by simp [also] at h, fun _ => e4⟩
end
end Go.Proofs.Ytcjhgefkbnbmnaa
