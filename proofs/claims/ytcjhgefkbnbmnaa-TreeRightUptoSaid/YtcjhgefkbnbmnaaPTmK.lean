/- tree.Copy. -/
import Derived.Test.YtcjhgefkbnbmnaaPTmJ
import Derived.Test.YtcjhgefkbnbmnaaPKzA
namespace Go.Proofs.Ytcjhgefkbnbmnaa
open Go.RowKit Go.Shelf LM
set_option linter.unusedVariables false
attribute [local go_sem] Oper.semAt_some

/-- A node whose annotation and Kids are still where they came from. -/
def PendTC (w0 : World) : TPendT := fun w b o h k F => F = [] ∧ ∃ qa ca q cap, THAt w b o h qa ca q k.len cap ∧ SlF w0 qa ca h.ak ∧ TSl w0 q cap k
theorem PendTC.loc (w0 : World) : TLocP (PendTC w0) := fun w w' b o h k F ⟨hF, qa, ca, q, cap, hh, ha, hs⟩ hc _ => ⟨hF, qa, ca, q, cap, hh.cells hc, ha, hs⟩
theorem TCellsOf.pend {w0 w : World} {b : Nat} : ∀ {f : TF} {cs : List Value} {o : Nat}, TCellsOf w0 f cs → (∀ j u, cs[j]? = some u → w.cell? ⟨b, o + j, none⟩ = some u) → TPT (PendTC w0) w f b o (tkidsP b o f.len) f.toList []
  | .nil, _, _, _, _ => ⟨rfl, rfl, rfl⟩
  | .cons h k r, _, o, ⟨qa, ca, q, cap, cs', rfl, ha, hs, hr⟩, hc => by
    refine ⟨[(b, o)], tkidsP b (o + 10) r.len, [(h, k)], r.toList, [], [], tkidsP_succ b o r.len, rfl, rfl, TCellsOf.pend hr (fun j u hj => ?_), .inl ⟨rfl, rfl, rfl, qa, ca, q, cap, ⟨hc 0 _ rfl, hc 1 _ rfl, hc 2 _ rfl, hc 3 _ rfl, hc 4 _ rfl, hc 5 _ rfl, hc 6 _ rfl, hc 7 _ rfl, hc 8 _ rfl, hc 9 _ rfl, hs.lc, hs.cm⟩, ha, hs⟩⟩
    rw [show o + 10 + j = o + (j + 10) by omega]
    exact hc (j + 10) u (by simpa using hj)

/-- What is still to come of ts. -/
def tflatL : List (TH × TF) → List (TH × TF)
  | [] => []
  | t :: ts => t :: (t.2.flat ++ tflatL ts)
theorem tflatL_append (a b : List (TH × TF)) : tflatL (a ++ b) = tflatL a ++ tflatL b := by
  induction a with
  | nil => rfl
  | cons t a ih => simp [tflatL, ih]
theorem tflatL_toList (f : TF) : tflatL f.toList = f.flat := by
  induction f with
  | nil => rfl
  | cons h k r _ hr => simp [TF.toList, tflatL, TF.flat, hr]
theorem tflatL_len (ts : List (TH × TF)) : ts.length ≤ (tflatL ts).length := by
  induction ts with
  | nil => exact Nat.le_refl _
  | cons t ts ih => simp [tflatL]; omega

/-- What Copy answers. -/
def TCopPost (w : World) (h : TH) (f : TF) (e : Ending) (w' : World) : Prop := ∃ qa ca q cap Fa F, e = .returned (.agg (tmV h qa ca q f.len cap)) ∧ f.len ≤ cap ∧ cap ≤ maxLen ∧ (OwnF w' qa h.ak Fa ∧ h.ak.len ≤ ca ∧ ca ≤ maxLen) ∧
      TOwn w' q f F ∧ (Fa ++ F).Nodup ∧ (∀ c ∈ Fa ++ F, w.heap.size ≤ c ∧ c < w'.heap.size) ∧ Below w.heap.size w w'

theorem TF.tok_list {B : Nat} : ∀ {f : TF}, f.ok → f.bulk ≤ B → ∀ t ∈ f.toList, t.1.ok ∧ t.2.ok ∧ 1 + t.1.ak.size + t.2.bulk ≤ B
  | .nil, _, _, t, ht => by cases ht
  | .cons h k r, ⟨h1, h2, h3⟩, hb, t, ht => by
    simp only [TF.bulk] at hb
    rcases List.mem_cons.1 ht with rfl | ht
    · exact ⟨h1, h2, by simp only; omega⟩
    · exact TF.tok_list h3 (by omega) t ht
abbrev zT10 : Array Value := #[.int .u8 0, .string ⟨#[]⟩, .string ⟨#[]⟩, .int .i64 0, .bool false, .int .u8 0, .string ⟨#[]⟩, .int .i64 0, .slice none 0 0, .slice none 0 0]
/-- What Copy keeps. -/
structure TCpI (w : World) (h : TH) (f : TF) (k : Nat) (st : List LP) (ts : List (TH × TF)) (F : List Nat) (D : Nat → Prop) (W : World) : Prop where
  n : k = (tflatL ts).length
  small : k ≤ 1073741824
  lv : ∀ p ∈ st, p.1 + k ≤ 1073741825
  tok : ∀ t ∈ ts, t.1.ok ∧ t.2.ok ∧ 1 + t.1.ak.size + t.2.bulk ≤ 1073741824
  pt : TPT (PendTC w) W (.cons h f .nil) w.heap.size 0 (st.map Prod.snd) ts F
  nd : (w.heap.size :: F).Nodup
  big : ∀ c ∈ F, w.heap.size + 1 + 1 + 1 ≤ c
  d1 : ∀ c, D c → c ∈ F
  d2 : ∀ c, c ∈ F → D c
  lt : ∀ c, c ∈ F → c < W.heap.size
  row : RowT W w.heap.size
  res : W.heap[w.heap.size + 1]? = some (.cells zT10 43 (0, 0))
  below : Below w.heap.size w W
  room : w.heap.size + 1 + 1 + 1 ≤ W.heap.size

theorem TCpI.kept {w : World} {h : TH} {f : TF} {k : Nat} {st : List LP} {ts : List (TH × TF)} {F : List Nat} {D : Nat → Prop} {X Y : World} {row : Option Nat} (hx : TCpI w h f k st ts F D X) (hg : X.grownBy Y row)
    (hr : ∀ r, row = some r → w.heap.size + 1 + 1 + 1 ≤ r ∧ ¬ D r) : TCpI w h f k st ts F D Y := by
  have hlt := hx.row.lt
  have e1 : Y.heap[w.heap.size]? = X.heap[w.heap.size]? := hg.block _ hlt (fun e => by have := (hr _ e.symm).1; omega)
  have hl2 := (Array.getElem?_eq_some_iff.1 hx.res).1
  exact ⟨hx.n, hx.small, hx.lv, hx.tok, hx.pt.keep (PendTC.loc w) (fun i _ => cell_same e1 i) (fun c hc => hg.block c (hx.lt c hc) (fun e => (hr c e.symm).2 (hx.d2 c hc))), hx.nd, hx.big, hx.d1, hx.d2, fun c hc => Nat.lt_of_lt_of_le (hx.lt c hc) hg.size, hx.row.same e1,
    (hg.block _ hl2 (fun e => by have := (hr _ e.symm).1; omega)).trans hx.res, hx.below.grown hg hx.below.size (fun r e => by have := (hr r e).1; omega), Nat.le_trans hx.room hg.size⟩

theorem TCpI.next {w : World} {h : TH} {f : TF} {k : Nat} {p : LP} {st kl : List LP} {t : TH × TF} {ts : List (TH × TF)} {F A B : List Nat} {D : Nat → Prop} {W W' : World} {kts : List (TH × TF)} {G : List Nat}
    (hx : TCpI w h f k (p :: st) (t :: ts) F D W) (hF : F = A ++ [] ++ B) (hpl : (p.2.1 = w.heap.size ∧ 0 ≤ p.2.2) ∨ p.2.1 ∈ A)
    (hgo : ∀ (w' : World) (kst : List Pl) (kts : List (TH × TF)) (F1 : List Nat), (∀ i, i < p.2.2 ∨ p.2.2 + 10 ≤ i → w'.cell? ⟨p.2.1, i, none⟩ = W.cell? ⟨p.2.1, i, none⟩) →
        (∀ c ∈ w.heap.size :: (A ++ B), c ≠ p.2.1 → w'.heap[c]? = W.heap[c]?) → (RowT W p.2.1 → RowT w' p.2.1) → TVis (PendTC w) w' p.2 t.1 t.2 kst kts F1 → TPT (PendTC w) w' (.cons h f .nil) w.heap.size 0 (kst ++ st.map Prod.snd) (kts ++ ts) (A ++ F1 ++ B))
    (hpW : p.2.1 < W.heap.size) (hg : W.grownBy W' (some p.2.1)) (hcell : ∀ i, i < p.2.2 ∨ p.2.2 + 10 ≤ i → W'.cell? ⟨p.2.1, i, none⟩ = W.cell? ⟨p.2.1, i, none⟩) (hrow : RowT W p.2.1 → RowT W' p.2.1)
    (hv : TVis (PendTC w) W' p.2 t.1 t.2 (kl.map Prod.snd) kts G) (hkl : ∀ x ∈ kl, x.1 = p.1 + 1)
    (hkts : kts = t.2.toList) (hG : ∀ c ∈ G, W.heap.size ≤ c ∧ c < W'.heap.size) (hGn : G.Nodup) :
    TCpI w h f (k - 1) (kl ++ st) (kts ++ ts) (A ++ G ++ B) (fun c => c ∈ A ++ G ++ B) W' ∧
      Tch (w.heap.size + 1 + 1 + 1) D (fun c => c ∈ A ++ G ++ B) W W' ∧ (p.2.1 < w.heap.size + 1 + 1 + 1 ∨ p.2.1 ∈ A ++ G ++ B) ∧ k - 1 < k := by
  subst hF
  have ho : ∀ c, c < W.heap.size → c ≠ p.2.1 → W'.heap[c]? = W.heap[c]? := fun c hc hne => hg.block c hc (fun e => hne (Option.some.inj e))
  have hmem : ∀ c, c ∈ A ++ B → c ∈ A ++ [] ++ B := fun c hc => by simpa using hc
  have hrlt := hx.row.lt
  have hkpos : k - 1 < k ∧ k = 1 + t.2.flat.length + (tflatL ts).length := by
    have := hx.n; simp [tflatL] at this; omega
  have hnd := hx.nd
  have hne2 : p.2.1 ≠ w.heap.size + 1 := by
    rcases hpl with h1 | h1
    · omega
    · have := hx.big p.2.1 (by simp [h1]); omega
  have hpd : p.2.1 < w.heap.size + 1 + 1 + 1 ∨ D p.2.1 := by
    rcases hpl with h1 | h1
    · left; omega
    · exact .inr (hx.d2 _ (by simp [h1]))
  refine ⟨⟨?_, by have := hx.small; omega, ?_, ?_, ?_, ?_, ?_, fun c hc => hc, fun c hc => hc, ?_, ?_, ?_, ?_, by have := hx.room; have := hg.size; omega⟩, ⟨hg.size, ?_, ?_, ?_⟩, ?_, hkpos.1⟩
  · rw [tflatL_append, List.length_append, hkts, tflatL_toList]; omega
  · intro x hx1
    have h0 := hx.lv p (by simp)
    rcases List.mem_append.1 hx1 with h1 | h1
    · rw [hkl x h1]; omega
    · have := hx.lv x (by simp [h1]); omega
  · intro x hx1
    obtain ⟨o1, o2, o3⟩ := hx.tok t (by simp)
    rcases List.mem_append.1 hx1 with h1 | h1
    · rw [hkts] at h1; exact TF.tok_list o2 (by omega) x h1
    · exact hx.tok x (by simp [h1])
  · rw [List.map_append]
    refine hgo _ _ kts G hcell (fun c hc hne => ?_) hrow hv
    refine ho c ?_ hne
    rcases List.mem_cons.1 hc with h1 | h1
    · rw [h1]; exact hrlt
    · exact hx.lt c (hmem c h1)
  · rw [List.nodup_cons] at hnd ⊢
    obtain ⟨h1, h2⟩ := hnd
    simp only [List.append_nil] at h1 h2
    rw [List.nodup_append] at h2
    obtain ⟨h3, h4, h5⟩ := h2
    refine ⟨fun hc => ?_, ?_⟩
    · simp only [List.mem_append] at hc h1
      rcases hc with (hc | hc) | hc
      · exact h1 (.inl hc)
      · have := (hG _ hc).1; omega
      · exact h1 (.inr hc)
    · rw [List.nodup_append, List.nodup_append]
      refine ⟨⟨h3, hGn, fun a ha b hb e => ?_⟩, h4, fun a ha b hb e => ?_⟩
      · have := hx.lt a (by simp [ha]); have := (hG b hb).1; omega
      · rcases List.mem_append.1 ha with h6 | h6
        · exact h5 a h6 b hb e
        · have := hx.lt b (by simp [hb]); have := (hG a h6).1; omega
  · intro c hc
    simp only [List.mem_append] at hc
    rcases hc with (hc | hc) | hc
    · exact hx.big c (by simp [hc])
    · have := (hG c hc).1; have := hx.room; omega
    · exact hx.big c (by simp [hc])
  · intro c hc
    have hs := hg.size
    simp only [List.mem_append] at hc
    rcases hc with (hc | hc) | hc
    · have := hx.lt c (by simp [hc]); omega
    · exact (hG c hc).2
    · have := hx.lt c (by simp [hc]); omega
  · by_cases e : w.heap.size = p.2.1
    · rw [e]; exact hrow (e ▸ hx.row)
    · exact hx.row.same (ho _ hrlt e)
  · exact (ho _ (Array.getElem?_eq_some_iff.1 hx.res).1 (fun e => hne2 e.symm)).trans hx.res
  · refine hx.below.grown hg hx.below.size (fun r e => ?_)
    cases e
    rcases hpl with h1 | h1
    · omega
    · have := hx.big p.2.1 (by simp [h1]); omega
  · intro b hb hlt' hd
    exact ho b hlt' (fun e => hpd.elim (fun h1 => by omega) (fun h1 => hd (e ▸ h1)))
  · intro b hb
    simp only [List.mem_append] at hb
    rcases hb with (hb | hb) | hb
    · exact .inl (hx.d2 b (by simp [hb]))
    · exact .inr (hG b hb)
    · exact .inl (hx.d2 b (by simp [hb]))
  · intro b hb
    have := hx.d1 b hb
    simp only [List.mem_append, List.append_nil] at this ⊢
    rcases this with h1 | h1
    · exact .inl (.inl h1)
    · exact .inr h1
  · rcases hpl with h1 | h1
    · left; omega
    · right; simp [h1]

theorem put4_same {w W' : World} {b o : Nat} {v0 v1 v2 v3 : Value} (hW : W' = World.put4 w b o v0 v1 v2 v3) (d0 : w.cell? ⟨b, o, none⟩ ≠ none) (d1 : w.cell? ⟨b, o + 1, none⟩ ≠ none) (d2 : w.cell? ⟨b, o + 2, none⟩ ≠ none) (d3 : w.cell? ⟨b, o + 3, none⟩ ≠ none) :
    W'.cell? ⟨b, o, none⟩ = some v0 ∧ W'.cell? ⟨b, o + 1, none⟩ = some v1 ∧ W'.cell? ⟨b, o + 2, none⟩ = some v2 ∧ W'.cell? ⟨b, o + 3, none⟩ = some v3 := by
  have ne : ∀ i j, i ≠ j → (⟨b, i, none⟩ : Addr) ≠ ⟨b, j, none⟩ := fun i j h e => h (congrArg Addr.off e)
  have is : ∀ {x : Option Value}, x ≠ none → x.isSome = true := fun {x} h => by cases x <;> simp_all
  subst hW
  unfold World.put4
  refine ⟨?_, ?_, ?_, ?_⟩
  · rw [World.cell?_setCell_other (h := ne _ _ (by omega)), World.cell?_setCell_other (h := ne _ _ (by omega)), World.cell?_setCell_other (h := ne _ _ (by omega))]
    exact World.cell?_setCell_same' _ _ _ (is d0)
  · rw [World.cell?_setCell_other (h := ne _ _ (by omega)), World.cell?_setCell_other (h := ne _ _ (by omega))]
    exact World.cell?_setCell_same' _ _ _ (by rw [World.cell?_setCell_other (h := ne _ _ (by omega))]; exact is d1)
  · rw [World.cell?_setCell_other (h := ne _ _ (by omega))]
    exact World.cell?_setCell_same' _ _ _ (by rw [World.cell?_setCell_other (h := ne _ _ (by omega)), World.cell?_setCell_other (h := ne _ _ (by omega))]; exact is d2)
  · exact World.cell?_setCell_same' _ _ _ (by rw [World.cell?_setCell_other (h := ne _ _ (by omega)), World.cell?_setCell_other (h := ne _ _ (by omega)), World.cell?_setCell_other (h := ne _ _ (by omega))]; exact is d3)
/-- A node's annotation and Kids are stored at its place: what stands there then. -/
theorem tvis_end {w W w1 w3 : World} {p : LP} {t : TH × TF} {qa1 : Option Addr} {ca1 : Nat} {q1 : Option Addr} {cap1 : Nat} {q' : Option Addr} {cp : Nat} {qa' : Option Addr} {ca' : Nat} {Fa : List Nat}
    (hhd : THAt W p.2.1 p.2.2 t.1 qa1 ca1 q1 t.2.len cap1) (hrw : RowT W p.2.1) (hb1 : Below W.heap.size W w1) (hcp : t.2.len ≤ cp) (hcm : cp ≤ maxLen)
    (hk : t.2.len = 0 ∨ ∃ g cs, q' = some ⟨g, 0, none⟩ ∧ W.heap.size ≤ g ∧ RowT w1 g ∧ TCellsOf w t.2 cs ∧ ∀ j u, cs[j]? = some u → w1.cell? ⟨g, j, none⟩ = some u)
    (hb3 : Below (w1.setCell ⟨p.2.1, p.2.2 + 9, none⟩ (.slice q' t.2.len cp)).heap.size (w1.setCell ⟨p.2.1, p.2.2 + 9, none⟩ (.slice q' t.2.len cp)) w3)
    (ho : OwnF w3 qa' t.1.ak Fa) (hn : Fa.Nodup) (hF : ∀ c ∈ Fa, w1.heap.size ≤ c ∧ c < w3.heap.size) (hla : t.1.ak.len ≤ ca') (hma : ca' ≤ maxLen) :
    ∃ W', W' = World.put4 w3 p.2.1 (p.2.2 + 5) (.int .u8 t.1.ah.op) (.string t.1.ah.name) (.int .i64 t.1.ah.n) (.slice qa' t.1.ak.len ca') ∧ W.grownBy W' (some p.2.1) ∧
      (∀ i, i < p.2.2 ∨ p.2.2 + 10 ≤ i → W'.cell? ⟨p.2.1, i, none⟩ = W.cell? ⟨p.2.1, i, none⟩) ∧ (RowT W p.2.1 → RowT W' p.2.1) ∧ W'.cell? ⟨p.2.1, p.2.2 + 9, none⟩ = some (.slice q' t.2.len cp) ∧
      ∃ kb kl kts G, (0 < t.2.len → q' = some ⟨kb, 0, none⟩) ∧ kl = lkids p.1 kb 0 t.2.len ∧ TVis (PendTC w) W' p.2 t.1 t.2 (kl.map Prod.snd) kts G ∧ kts = t.2.toList ∧ (∀ c ∈ G, W.heap.size ≤ c ∧ c < W'.heap.size) ∧ G.Nodup := by
  have hlt := hhd.lt
  have hlt1 : p.2.1 < w1.heap.size := Nat.lt_of_lt_of_le hlt hb1.size
  have e2 : ∀ c, c ≠ p.2.1 → (w1.setCell ⟨p.2.1, p.2.2 + 9, none⟩ (.slice q' t.2.len cp)).heap[c]? = w1.heap[c]? := fun c hc => Below.heap_setCell _ _ _ c hc
  have hz2 : (w1.setCell ⟨p.2.1, p.2.2 + 9, none⟩ (.slice q' t.2.len cp)).heap.size = w1.heap.size := by simp
  have hr1 : RowT w1 p.2.1 := hrw.same (hb1.block _ hlt)
  have hr2 : RowT (w1.setCell ⟨p.2.1, p.2.2 + 9, none⟩ (.slice q' t.2.len cp)) p.2.1 := hr1.set _ _
  have hr3 : RowT w3 p.2.1 := hr2.same (hb3.block _ (by rw [hz2]; exact hlt1))
  have cell2 : ∀ i, i ≠ p.2.2 + 9 → w3.cell? ⟨p.2.1, i, none⟩ = W.cell? ⟨p.2.1, i, none⟩ := fun i hi =>
    (hb3.cell (p := ⟨p.2.1, i, none⟩) (by rw [hz2]; exact hlt1)).trans ((World.cell?_setCell_other w1 ⟨p.2.1, p.2.2 + 9, none⟩ ⟨p.2.1, i, none⟩ _ (fun e => hi (congrArg Addr.off e).symm)).trans (hb1.cell (p := ⟨p.2.1, i, none⟩) hlt))
  have c9 : w3.cell? ⟨p.2.1, p.2.2 + 9, none⟩ = some (.slice q' t.2.len cp) := (hb3.cell (p := ⟨p.2.1, p.2.2 + 9, none⟩) (by rw [hz2]; exact hlt1)).trans
    (World.cell?_setCell_same' _ _ _ (by rw [hb1.cell (p := ⟨p.2.1, p.2.2 + 9, none⟩) hlt, hhd.c9]; rfl))
  obtain ⟨W', hW'⟩ : ∃ W', W' = World.put4 w3 p.2.1 (p.2.2 + 5) (.int .u8 t.1.ah.op) (.string t.1.ah.name) (.int .i64 t.1.ah.n) (.slice qa' t.1.ak.len ca') := ⟨_, rfl⟩
  have hg4 : w3.grownBy W' (some p.2.1) := by rw [hW']; exact put4_grown _ _ _ _ _ _ _
  have hcs : ∀ i, (i < p.2.2 + 5 ∨ p.2.2 + 9 ≤ i) → W'.cell? ⟨p.2.1, i, none⟩ = w3.cell? ⟨p.2.1, i, none⟩ := fun i hi => by
    rw [hW']
    unfold World.put4
    have e : ∀ j, p.2.2 + 5 ≤ j → j < p.2.2 + 9 → (⟨p.2.1, j, none⟩ : Addr) ≠ ⟨p.2.1, i, none⟩ := fun j h1 h2 e => by have := congrArg Addr.off e; simp only at this; omega
    rw [World.cell?_setCell_other (h := e _ (by omega) (by omega)), World.cell?_setCell_other (h := e _ (by omega) (by omega)), World.cell?_setCell_other (h := e _ (by omega) (by omega)), World.cell?_setCell_other (h := e _ (by omega) (by omega))]
  have hrow' : RowT W' p.2.1 := by rw [hW']; exact (((hr3.set _ _).set _ _).set _ _).set _ _
  have s5 : W'.cell? ⟨p.2.1, p.2.2 + 5, none⟩ = some (.int .u8 t.1.ah.op) ∧ W'.cell? ⟨p.2.1, p.2.2 + 6, none⟩ = some (.string t.1.ah.name) ∧ W'.cell? ⟨p.2.1, p.2.2 + 7, none⟩ = some (.int .i64 t.1.ah.n) ∧ W'.cell? ⟨p.2.1, p.2.2 + 8, none⟩ = some (.slice qa' t.1.ak.len ca') := by
    have d5 : w3.cell? ⟨p.2.1, p.2.2 + 5, none⟩ ≠ none := by rw [cell2 _ (by omega), hhd.c5]; simp
    have d6 : w3.cell? ⟨p.2.1, p.2.2 + 5 + 1, none⟩ ≠ none := by rw [cell2 _ (by omega)]; rw [show p.2.2 + 5 + 1 = p.2.2 + 6 by omega, hhd.c6]; simp
    have d7 : w3.cell? ⟨p.2.1, p.2.2 + 5 + 2, none⟩ ≠ none := by rw [cell2 _ (by omega)]; rw [show p.2.2 + 5 + 2 = p.2.2 + 7 by omega, hhd.c7]; simp
    have d8 : w3.cell? ⟨p.2.1, p.2.2 + 5 + 3, none⟩ ≠ none := by rw [cell2 _ (by omega)]; rw [show p.2.2 + 5 + 3 = p.2.2 + 8 by omega, hhd.c8]; simp
    exact put4_same hW' d5 d6 d7 d8
  have hg : W.grownBy W' (some p.2.1) := ⟨hg4.os.trans (hb3.os.trans hb1.os), hg4.tape.trans (hb3.tape.trans hb1.tape), hg4.output.trans (hb3.output.trans hb1.output), by have := hb1.size; have := hb3.size; have := hg4.size; omega,
    fun c hc hne => (hg4.block c (by have := hb1.size; have := hb3.size; omega) hne).trans ((hb3.block c (by have := hb1.size; omega)).trans ((e2 c (fun e => hne (by rw [e]))).trans (hb1.block c hc)))⟩
  have hann : OwnF W' qa' t.1.ak Fa := ho.keep (fun c hc => hg4.block c (hF c hc).2 (fun e => by have := Option.some.inj e; have := (hF c hc).1; omega))
  have hth : THAt W' p.2.1 p.2.2 t.1 qa' ca' q' t.2.len cp := by
    have k : ∀ i, i < 5 → W'.cell? ⟨p.2.1, p.2.2 + i, none⟩ = W.cell? ⟨p.2.1, p.2.2 + i, none⟩ := fun i hi => (hcs _ (.inl (by omega))).trans (cell2 _ (by omega))
    exact ⟨(k 0 (by omega)).trans hhd.c0, (k 1 (by omega)).trans hhd.c1, (k 2 (by omega)).trans hhd.c2, (k 3 (by omega)).trans hhd.c3, (k 4 (by omega)).trans hhd.c4, s5.1, s5.2.1, s5.2.2.1, s5.2.2.2, (hcs _ (.inr (by omega))).trans c9, hcp, hcm⟩
  refine ⟨W', hW', hg, fun i hi => (hcs i (by omega)).trans (cell2 i (by omega)), fun _ => hrow', (hcs _ (.inr (by omega))).trans c9, ?_⟩
  have hs4 := hg4.size
  have hs3 := hb3.size
  have hs1 := hb1.size
  rcases hk with h0 | ⟨g, cs, rfl, hgW, hgr, hcs2, hcc⟩
  · have hnil : t.2 = .nil := by
      cases hx2 : t.2 with
      | nil => rfl
      | cons h k r => rw [hx2] at h0; simp [TF.len] at h0
    refine ⟨0, [], [], Fa ++ [], fun h => by omega, by rw [h0]; rfl, ⟨qa', ca', q', cp, Fa, [], rfl, hth, ⟨hann, hla, hma⟩, .inl ⟨h0, rfl, rfl, rfl⟩⟩, by rw [hnil]; rfl, fun c hc => ?_, by simpa using hn⟩
    rw [List.append_nil] at hc
    have := hF c hc
    omega
  · have hglt := hgr.lt
    have hgp : g ≠ p.2.1 := by omega
    have eg : W'.heap[g]? = w1.heap[g]? := (hg4.block g (by omega) (fun e => hgp (Option.some.inj e))).trans ((hb3.block g (by omega)).trans (e2 g hgp))
    refine ⟨g, lkids p.1 g 0 t.2.len, t.2.toList, Fa ++ [g], fun _ => rfl, rfl, ⟨qa', ca', _, cp, Fa, [g], rfl, hth, ⟨hann, hla, hma⟩, .inr ⟨g, [], rfl, rfl, hgr.same eg, ?_⟩⟩, rfl, fun c hc => ?_, ?_⟩
    · have := hcs2.pend (w := W') (b := g) (o := 0) (fun j u hj => by rw [Nat.zero_add]; exact (cell_same eg j).trans (hcc j u hj))
      have em : (lkids p.1 g 0 t.2.len).map Prod.snd = tkidsP g 0 t.2.len := by rw [lkids, List.map_map]; exact List.map_id _
      rw [em]; exact this
    · rcases List.mem_append.1 hc with h | h
      · have := hF c h; omega
      · simp at h; subst h; omega
    · refine List.nodup_append.2 ⟨hn, by simp, fun a ha b hb e => ?_⟩
      simp at hb
      have := (hF a ha).1
      omega

/-- A term is stored into a variable. -/
def World.set10 (W : World) (b : Nat) (v0 v1 v2 v3 v4 v5 v6 v7 v8 v9 : Value) : World := ((((((((((W.setCell ⟨b, 0, none⟩ v0).setCell ⟨b, 1, none⟩ v1).setCell ⟨b, 2, none⟩ v2).setCell ⟨b, 3, none⟩ v3).setCell ⟨b, 4, none⟩ v4).setCell ⟨b, 5, none⟩ v5).setCell ⟨b, 6, none⟩ v6).setCell ⟨b, 7, none⟩ v7).setCell ⟨b, 8, none⟩ v8).setCell ⟨b, 9, none⟩ v9)
theorem set10_row {W : World} {b : Nat} {a0 a1 a2 a3 a4 a5 a6 a7 a8 a9 : Value} {t : TypeId} (h : W.heap[b]? = some (.cells #[a0, a1, a2, a3, a4, a5, a6, a7, a8, a9] t (0, 0))) (v0 v1 v2 v3 v4 v5 v6 v7 v8 v9 : Value) : (World.set10 W b v0 v1 v2 v3 v4 v5 v6 v7 v8 v9).heap[b]? = some (.cells #[v0, v1, v2, v3, v4, v5, v6, v7, v8, v9] t (0, 0)) := by
  have := row_set (row_set (row_set (row_set (row_set (row_set (row_set (row_set (row_set (row_set h 0 v0) 1 v1) 2 v2) 3 v3) 4 v4) 5 v5) 6 v6) 7 v7) 8 v8) 9 v9
  simpa [World.set10] using this
theorem setCell_grown_at (W : World) (b i : Nat) (v : Value) : W.grownBy (W.setCell ⟨b, i, none⟩ v) (some b) :=
  ⟨rfl, rfl, rfl, by simp, fun k _ hk => Below.heap_setCell _ _ _ k (fun e => hk (by rw [e]))⟩
theorem grown_trans {W1 W2 W3 : World} {r : Option Nat} (h : W1.grownBy W2 r) (k : W2.grownBy W3 r) : W1.grownBy W3 r :=
  ⟨k.os.trans h.os, k.tape.trans h.tape, k.output.trans h.output, Nat.le_trans h.size k.size, fun b hb hn => (k.block b (Nat.lt_of_lt_of_le hb h.size) hn).trans (h.block b hb hn)⟩
theorem set10_grown (W : World) (b : Nat) (v0 v1 v2 v3 v4 v5 v6 v7 v8 v9 : Value) : W.grownBy (World.set10 W b v0 v1 v2 v3 v4 v5 v6 v7 v8 v9) (some b) :=
  grown_trans (grown_trans (grown_trans (grown_trans (grown_trans (grown_trans (grown_trans (grown_trans (grown_trans (setCell_grown_at W b 0 v0) (setCell_grown_at _ b 1 v1)) (setCell_grown_at _ b 2 v2)) (setCell_grown_at _ b 3 v3)) (setCell_grown_at _ b 4 v4)) (setCell_grown_at _ b 5 v5)) (setCell_grown_at _ b 6 v6)) (setCell_grown_at _ b 7 v7)) (setCell_grown_at _ b 8 v8)) (setCell_grown_at _ b 9 v9)

theorem zeroT_right : riB ⟨0, ⟨#[]⟩, 0⟩ .nil = false := by kernel_rfl
theorem zeroT_ok : Hd.ok ⟨0, ⟨#[]⟩, 0⟩ := hd_ok (by omega) (by omega) (by decide)

set_option maxRecDepth 100000 in
set_option maxHeartbeats 4000000 in
theorem Copy_any (h : TH) (f : TF) (qa : Option Addr) (ca : Nat) (q : Option Addr) (cap : Nat) (w : World) (hh : h.ok) (hok : f.ok) (ha : SlF w qa ca h.ak) (hf : TSl w q cap f) (hsz : 1 + h.ak.size + f.bulk ≤ 1073741824) :
    Calls Try.prog 48 #[.agg (tmV h qa ca q f.len cap)] w (TCopPost w h f) := by
  refine (callsIn_wide (n := 9)).1 ?_
  have HP := Lib.hid nodes_any
  have hst := tboxed_st w h f qa ca q cap ha hf
  have hall : (tflatL [(h, f)]).length = 1 + f.size := by simp [tflatL, TF.length_flat]; omega
  have hfb := TF.size_le_bulk f
  have hcpl : TPT (PendTC w) ((w.alloc (.cells (tmV h qa ca q f.len cap) 43)).alloc (.cells zT10 43)) (.cons h f .nil) w.heap.size 0 [(w.heap.size, 0)] [(h, f)] [] := by
    have e1 := World.alloc_heap_new w (.cells (tmV h qa ca q f.len cap) 43)
    have hc : ((w.alloc (.cells (tmV h qa ca q f.len cap) 43)).alloc (.cells zT10 43)).heap[w.heap.size]? = some (.cells (tmV h qa ca q f.len cap) 43 (0, 0)) := ((below_box _ _).block _ (by simp)).trans e1
    obtain ⟨z0, z1, z2, z3, z4, z5, z6, z7, z8, z9⟩ := row10 hc
    exact ⟨[(w.heap.size, 0)], [], [(h, f)], [], [], [], rfl, rfl, rfl, ⟨rfl, rfl, rfl⟩, .inl ⟨rfl, rfl, rfl, qa, ca, q, cap, ⟨z0, z1, z2, z3, z4, z5, z6, z7, z8, z9, hf.lc, hf.cm⟩, ha, hf⟩⟩
  unfold tmV at *
  refine callsIn_of_wp_marks Try.func48 rfl trivial ?_ rfl
  simp only [Try.ntmps48, List.size_toArray, List.length_cons, List.length_nil, Nat.reduceAdd, Nat.reduceSub, Array.replicate_succ, Array.replicate_zero, List.push_toArray, List.append_toArray, List.nil_append, List.cons_append]
  gi_wp2_with (refine ⟨trivial, ?_⟩; gi_at_call 74; refine (callsIn_wide.2 (HP.out _ _)).mono ?_; rintro e w' ⟨rfl, rfl⟩)
  refine range_nodes rfl (by omega) (Bn := w.heap.size + 1 + 1) rfl trivial (w.heap.size, 0) ?c1 rfl
    (fun k st D W => ∃ ts F, TCpI w h f k st ts F D W) (fun _ _ _ => False) ?hI (fun _ _ _ _ _ hx _ _ => hx.elim) (1 + f.size) ?c2
    (fun p => { tmps := #[.agg #[.int .u8 h.op, .string h.name, .string h.arg, .int .i64 h.n, .bool h.has, .int .u8 h.ah.op, .string h.ah.name, .int .i64 h.ah.n, .slice qa h.ak.len ca, .slice q f.len cap], .pointer (some ⟨w.heap.size, 0, none⟩), .pointer (some ⟨w.heap.size + 1, 0, none⟩), undef, .pointer (some ⟨p.2.1, p.2.2, none⟩),
      .func (.func 98) #[] #[.pointer (some ⟨w.heap.size + 1 + 1, 0, none⟩)], .int .i64 p.1, .pointer (some ⟨p.2.1, p.2.2, none⟩), undef, undef, undef, undef, undef, undef, undef, undef, undef, undef, undef, undef, undef, undef, undef, undef, undef, undef], defers := [] }) ?assign ?body ?done ?stop
  case assign =>
    intro l p W K hK
    gi_wp2
    simpa using hK
  case c1 => exact Boxed.cell (by have := Boxed.new ((w.alloc (.cells #[.int .u8 h.op, .string h.name, .string h.arg, .int .i64 h.n, .bool h.has, .int .u8 h.ah.op, .string h.ah.name, .int .i64 h.ah.n, .slice qa h.ak.len ca, .slice q f.len cap] 43)).alloc (.cells zT10 43)) 82 (.pointer (some ⟨w.heap.size, 0, none⟩)); simpa only [World.size_alloc] using this)
  case hI =>
    rintro k st D X Y row ⟨ts, F, hx⟩ hg hr
    exact ⟨ts, F, hx.kept hg (fun r e => by have := hr r e; simp at this; exact ⟨by omega, this.2⟩)⟩
  case c2 =>
    have e0 := World.alloc_heap_new w (.cells #[.int .u8 h.op, .string h.name, .string h.arg, .int .i64 h.n, .bool h.has, .int .u8 h.ah.op, .string h.ah.name, .int .i64 h.ah.n, .slice qa h.ak.len ca, .slice q f.len cap] 43)
    have eb : Below ((w.alloc (.cells #[.int .u8 h.op, .string h.name, .string h.arg, .int .i64 h.n, .bool h.has, .int .u8 h.ah.op, .string h.ah.name, .int .i64 h.ah.n, .slice qa h.ak.len ca, .slice q f.len cap] 43)).alloc (.cells zT10 43)).heap.size ((w.alloc (.cells #[.int .u8 h.op, .string h.name, .string h.arg, .int .i64 h.n, .bool h.has, .int .u8 h.ah.op, .string h.ah.name, .int .i64 h.ah.n, .slice qa h.ak.len ca, .slice q f.len cap] 43)).alloc (.cells zT10 43)) (((w.alloc (.cells #[.int .u8 h.op, .string h.name, .string h.arg, .int .i64 h.n, .bool h.has, .int .u8 h.ah.op, .string h.ah.name, .int .i64 h.ah.n, .slice qa h.ak.len ca, .slice q f.len cap] 43)).alloc (.cells zT10 43)).alloc (.cells #[.pointer (some ⟨w.heap.size, 0, none⟩)] 82)) := below_box _ _
    have e2 := World.alloc_heap_new (w.alloc (.cells #[.int .u8 h.op, .string h.name, .string h.arg, .int .i64 h.n, .bool h.has, .int .u8 h.ah.op, .string h.ah.name, .int .i64 h.ah.n, .slice qa h.ak.len ca, .slice q f.len cap] 43)) (.cells zT10 43)
    rw [World.size_alloc] at e2
    have e1 : ((w.alloc (.cells #[.int .u8 h.op, .string h.name, .string h.arg, .int .i64 h.n, .bool h.has, .int .u8 h.ah.op, .string h.ah.name, .int .i64 h.ah.n, .slice qa h.ak.len ca, .slice q f.len cap] 43)).alloc (.cells zT10 43)).heap[w.heap.size]? = some (.cells #[.int .u8 h.op, .string h.name, .string h.arg, .int .i64 h.n, .bool h.has, .int .u8 h.ah.op, .string h.ah.name, .int .i64 h.ah.n, .slice qa h.ak.len ca, .slice q f.len cap] 43 (0, 0)) := ((below_box _ _).block _ (by simp)).trans e0
    have e3 := eb.block w.heap.size (by simp; omega)
    refine ⟨[(h, f)], [], ⟨hall.symm, by omega, fun p hp => ?_, fun t ht => ?_, hcpl.keep (PendTC.loc w) (fun i _ => cell_same e3 i) (fun c hc => by cases hc), by simp, by simp, fun c hc => hc.elim, by simp, by simp, ⟨_, e3.trans e1⟩, (eb.block _ (by simp)).trans e2, ?_, by simp⟩⟩
    · simp at hp; subst hp; simp only; omega
    · simp at ht; subst ht; exact ⟨hh, hok, hsz⟩
    · exact ((below_box _ _).alloc (by simp) _).alloc (by simp; omega) _
  case body =>
    rintro l k p st D W hW hD ⟨ts, F, hx⟩
    cases ts with
    | nil => have := hx.pt.stlen; simp at this
    | cons t ts =>
    obtain ⟨Fp, A, B, hF, ⟨rfl, qa1, ca1, q1, cap1, hhd, hal, hsl⟩, hpl, hrow, hgo⟩ := hx.pt.step (PendTC.loc w) hx.nd
    obtain ⟨tk1, tk2, tk3⟩ := hx.tok t (by simp)
    have hrw := hrow hx.row
    have hlt := hhd.lt
    have hW' : w.heap.size + 1 + 1 + 1 ≤ W.heap.size := by simp at hW; omega
    have hpb : w.heap.size ≤ p.2.1 := by
      rcases hpl with h1 | h1
      · omega
      · have := hx.big p.2.1 (by rw [hF]; simp [h1]); omega
    have htb := TF.size_le_bulk t.2
    have htl := TF.len_le_size t.2
    have HCL := Lib.hid (Clone_any w t.2 q1 cap1 W hx.below hsl (by omega))
    have HPUT := Lib.hid fun W2 (hb2 : Below w.heap.size w W2) => Put_own0 t.1.ah t.1.ak qa1 ca1 0 ⟨0, ⟨#[]⟩, 0⟩ .nil none 0 W2 tk1.ah (hal.below hb2) tk1.ak (by omega) zeroT_ok (slF_nil _) trivial (by simp [Fo.size]) (by rw [zeroT_right, Bool.and_false])
    have c9 := hhd.c9
    have HX := Lib.hid hx
    have HF := Lib.hid hF
    have HGO := Lib.hid hgo
    have HPL := Lib.hid hpl
    have HRW := Lib.hid hrw
    have HHD := Lib.hid hhd
    clear hx hF hgo hpl hrow hhd hal hsl tk1 tk2 hrw
    have hfacts : ∀ w1, Below W.heap.size W w1 → ∀ v : Value, w1.cell? ⟨p.2.1, p.2.2 + 9, none⟩ = some (.slice q1 t.2.len cap1) ∧ w1.frozen? ⟨p.2.1, p.2.2 + 9, none⟩ = false ∧
        (w1.setCell ⟨p.2.1, p.2.2 + 9, none⟩ v).cell? ⟨p.2.1, p.2.2 + 5, none⟩ = some (.int .u8 t.1.ah.op) ∧ (w1.setCell ⟨p.2.1, p.2.2 + 9, none⟩ v).cell? ⟨p.2.1, p.2.2 + 5 + 1, none⟩ = some (.string t.1.ah.name) ∧
        (w1.setCell ⟨p.2.1, p.2.2 + 9, none⟩ v).cell? ⟨p.2.1, p.2.2 + 5 + 2, none⟩ = some (.int .i64 t.1.ah.n) ∧ (w1.setCell ⟨p.2.1, p.2.2 + 9, none⟩ v).cell? ⟨p.2.1, p.2.2 + 5 + 3, none⟩ = some (.slice qa1 t.1.ak.len ca1) ∧
        Below w.heap.size w (w1.setCell ⟨p.2.1, p.2.2 + 9, none⟩ v) := fun w1 hb v => by
      have hth := HHD.out.same (hb.block _ HHD.out.lt)
      have ne : ∀ i, i ≠ p.2.2 + 9 → (⟨p.2.1, p.2.2 + 9, none⟩ : Addr) ≠ ⟨p.2.1, i, none⟩ := fun i h e => h (congrArg Addr.off e).symm
      refine ⟨hth.c9, (HRW.out.same (hb.block _ HHD.out.lt)).frozen _, ?_, ?_, ?_, ?_, (below_go2 HX.out.below hb).setCell (p := ⟨p.2.1, p.2.2 + 9, none⟩) hpb v⟩
      · rw [World.cell?_setCell_other (h := ne _ (by omega))]; exact hth.c5
      · rw [World.cell?_setCell_other (h := ne _ (by omega))]; exact hth.c6
      · rw [World.cell?_setCell_other (h := ne _ (by omega))]; exact hth.c7
      · rw [World.cell?_setCell_other (h := ne _ (by omega))]; exact hth.c8
    have HFA := Lib.hid hfacts
    have hfacts3 : ∀ w1 w3 (v : Value), Below W.heap.size W w1 → Below (w1.setCell ⟨p.2.1, p.2.2 + 9, none⟩ v).heap.size (w1.setCell ⟨p.2.1, p.2.2 + 9, none⟩ v) w3 → RowT w3 p.2.1 ∧ w3.cell? ⟨p.2.1, p.2.2 + 5, none⟩ = some (.int .u8 t.1.ah.op) ∧ w3.cell? ⟨p.2.1, p.2.2 + 5 + 1, none⟩ = some (.string t.1.ah.name) ∧
        w3.cell? ⟨p.2.1, p.2.2 + 5 + 2, none⟩ = some (.int .i64 t.1.ah.n) ∧ w3.cell? ⟨p.2.1, p.2.2 + 5 + 3, none⟩ = some (.slice qa1 t.1.ak.len ca1) := fun w1 w3 v hb hb3 => by
      obtain ⟨_, _, f5, f6, f7, f8, _⟩ := HFA.out w1 hb v
      have hl1 : p.2.1 < (w1.setCell ⟨p.2.1, p.2.2 + 9, none⟩ v).heap.size := by have := HHD.out.lt; have := hb.size; simp; omega
      exact ⟨((HRW.out.same (hb.block _ HHD.out.lt)).set _ _).same (hb3.block _ hl1), (hb3.cell (p := ⟨p.2.1, p.2.2 + 5, none⟩) hl1).trans f5, (hb3.cell (p := ⟨p.2.1, p.2.2 + 5 + 1, none⟩) hl1).trans f6, (hb3.cell (p := ⟨p.2.1, p.2.2 + 5 + 2, none⟩) hl1).trans f7, (hb3.cell (p := ⟨p.2.1, p.2.2 + 5 + 3, none⟩) hl1).trans f8⟩
    have HFB := Lib.hid hfacts3
    clear hfacts hfacts3
    gi_wp2_with (first
      | (refine ⟨trivial, ?_⟩; gi_at_call 85; refine (CallsIn.inRound l (callsIn_wide.2 HCL.out)).mono ?_; rintro e w1 ⟨q', cp, rfl, hcp, hcm, hb1, hk⟩; obtain ⟨d9, z9, d5, d6, d7, d8, hbw⟩ := HFA.out w1 hb1 (.slice q' t.2.len cp); have HB1 := Lib.hid hb1; have HK := Lib.hid hk; have HBW := Lib.hid hbw; clear hb1 hk hbw))
    refine ⟨trivial, ?_⟩
    refine (CallsIn.inRound l (callsIn_wide.2 (HPUT.out _ HBW.out))).mono ?_
    rintro e w3 ⟨qa', ca', Fa, rfl, hla, hma, hoa, hna, hFa, hb3⟩
    obtain ⟨hr3, g5, g6, g7, g8⟩ := HFB.out w1 w3 _ HB1.out hb3
    have y5 := hr3.frozen (p.2.2 + 5)
    have y6 := hr3.frozen (p.2.2 + 5 + 1)
    have y7 := hr3.frozen (p.2.2 + 5 + 2)
    have y8 := hr3.frozen (p.2.2 + 5 + 3)
    have HEND := Lib.hid (tvis_end (w := w) (p := p) (t := t) HHD.out HRW.out HB1.out hcp hcm HK.out hb3 hoa hna (fun c hc => by have := hFa c hc; simpa using this) hla hma)
    clear hb3 hoa hna hFa hla hma d5 d6 d7 d8 d9 z9 hr3
    gi_wp2
    obtain ⟨W', hW', hg, hcell, hrow', hc9, kb, kl, kts, G, hq, hkl, hv, hkts, hG, hGn⟩ := HEND.out
    subst hW'
    obtain ⟨r1, r2, r3, r4⟩ := HX.out.next HF.out HPL.out HGO.out HHD.out.lt hg hcell hrow' hv (fun x hx => by rw [hkl] at hx; obtain ⟨y, _, rfl⟩ := List.mem_map.1 hx; rfl) hkts hG hGn
    have hst := r1.pt.stlen
    rw [List.length_map] at hst
    have h2 := tflatL_len (kts ++ ts)
    rw [← r1.n] at h2
    have h3 := r1.small
    have h4 := HX.out.lv p (by simp)
    rw [hkl] at r1 hst
    rw [List.length_append, length_lkids] at hst
    exact ⟨k - 1, q', kb, 0, t.2.len, cp, _, r4, hc9, hq, hcp, by omega, by omega, ⟨_, _, r1⟩, by simpa [World.put4] using r2, by simpa using r3⟩
  case done =>
    rintro K k D W hK hDK ⟨ts, F, hx⟩ hKd
    have hp := hx.pt
    have hts : ts = [] := hp.ts_nil
    subst hts
    obtain ⟨s1, s2, t1, t2, G1, G2, f1, f2, f3, hr, hc⟩ := hp
    obtain ⟨rfl, rfl⟩ := List.append_eq_nil_iff.1 f1.symm
    obtain ⟨rfl, rfl⟩ := List.append_eq_nil_iff.1 f2.symm
    obtain ⟨_, _, rfl⟩ := hr
    rcases hc with ⟨x1, _⟩ | ⟨qa', ca', q', cap', Fa, Fk, hFk, hhd, han, hk⟩
    · cases x1
    have hown : TOwn W q' f Fk := by
      rcases hk with ⟨x1, _, _, x4⟩ | ⟨b', F', x1, x2, x3, hk⟩
      · exact .inl ⟨x1, x4⟩
      · exact .inr ⟨b', F', x1, x2, x3, hk.any⟩
    have hFF : F = Fa ++ Fk := by rw [f3, hFk, List.append_nil]
    have c0 := hhd.c0
    have c1 := hhd.c1
    have c2 := hhd.c2
    have c3 := hhd.c3
    have c4 := hhd.c4
    have c5 := hhd.c5
    have c6 := hhd.c6
    have c7 := hhd.c7
    have c8 := hhd.c8
    have c9 := hhd.c9
    obtain ⟨z0, z1, z2, z3, z4, z5, z6, z7, z8, z9⟩ := row10 hx.res
    have hfz : ∀ i, W.frozen? ⟨w.heap.size + 1, i, none⟩ = false := fun i => by simp [World.frozen?, hx.res]
    have y0 := hfz 0
    have y1 := hfz 1
    have y2 := hfz 2
    have y3 := hfz 3
    have y4 := hfz 4
    have y5 := hfz 5
    have y6 := hfz 6
    have y7 := hfz 7
    have y8 := hfz 8
    have y9 := hfz 9
    have HX := Lib.hid hx
    have HO := Lib.hid hown
    have HA := Lib.hid han
    have HFF := Lib.hid hFF
    have HHD := Lib.hid hhd
    clear hx hown hhd hk f3 hFk han hFF hfz
    gi_wp2
    have hg := set10_grown W (w.heap.size + 1) (.int .u8 h.op) (.string h.name) (.string h.arg) (.int .i64 h.n) (.bool h.has) (.int .u8 h.ah.op) (.string h.ah.name) (.int .i64 h.ah.n) (.slice qa' h.ak.len ca') (.slice q' f.len cap')
    have hrow := set10_row HX.out.res (.int .u8 h.op) (.string h.name) (.string h.arg) (.int .i64 h.n) (.bool h.has) (.int .u8 h.ah.op) (.string h.ah.name) (.int .i64 h.ah.n) (.slice qa' h.ak.len ca') (.slice q' f.len cap')
    have hne : K ≠ w.heap.size + 1 := by simp at hK; omega
    have hKd' := (hg.block K (Array.getElem?_eq_some_iff.1 hKd).1 (by intro e; exact hne (Option.some.inj e))).trans hKd
    refine ⟨by simp, .inl ⟨_, _, rfl, run_takeDeferred hKd', ?_⟩⟩
    have hg2 := grownBy_putObj' (World.set10 W (w.heap.size + 1) (.int .u8 h.op) (.string h.name) (.string h.arg) (.int .i64 h.n) (.bool h.has) (.int .u8 h.ah.op) (.string h.ah.name) (.int .i64 h.ah.n) (.slice qa' h.ak.len ca') (.slice q' f.len cap')) K (.deferred none)
    have hrow2 := (hg2.block _ (Array.getElem?_eq_some_iff.1 hrow).1 (by intro e; exact hne (Option.some.inj e).symm)).trans hrow
    refine ⟨_, results_cell_row rfl _ _ _ _ _ _ (.struct _) rfl hrow2 Try.underlying43 rfl (by kernel_rfl), ?_⟩
    have hlt2 := (Array.getElem?_eq_some_iff.1 hKd).1
    have hroom := HX.out.room
    have hKne : ∀ c ∈ F, c ≠ K := fun c hc e => hDK (e ▸ HX.out.d2 c hc)
    have hFk : ∀ c ∈ F, ((World.set10 W (w.heap.size + 1) (.int .u8 h.op) (.string h.name) (.string h.arg) (.int .i64 h.n) (.bool h.has) (.int .u8 h.ah.op) (.string h.ah.name) (.int .i64 h.ah.n) (.slice qa' h.ak.len ca') (.slice q' f.len cap')).putObj K (.deferred none)).heap[c]? = W.heap[c]? := fun c hc =>
      (hg2.block c (by have := hg.size; have := HX.out.lt c hc; omega) (by intro e; exact hKne c hc (Option.some.inj e))).trans (hg.block c (HX.out.lt c hc) (by intro e; have := Option.some.inj e; have := HX.out.big c hc; omega))
    have hnd := HX.out.nd
    rw [List.nodup_cons] at hnd
    have hFF := HFF.out
    refine ⟨qa', ca', q', cap', Fa, Fk, rfl, HHD.out.lc, HHD.out.cm, ⟨HA.out.1.keep (fun c hc => hFk c (by rw [hFF]; simp [hc])), HA.out.2⟩, HO.out.keep (fun c hc => hFk c (by rw [hFF]; simp [hc])), by rw [← hFF]; exact hnd.2, fun c hc => ?_, ?_⟩
    · rw [← hFF] at hc
      exact ⟨by have := HX.out.big c hc; omega, Nat.lt_of_lt_of_le (HX.out.lt c hc) (Nat.le_trans hg.size hg2.size)⟩
    · exact (HX.out.below.grown hg HX.out.below.size (fun r e => by cases e; omega)).grown hg2 (Nat.le_trans HX.out.below.size hg.size) (fun r e => by cases e; simp at hK; omega)
  case stop =>
    rintro K c D W _ _ hx _
    exact hx.elim
end Go.Proofs.Ytcjhgefkbnbmnaa
