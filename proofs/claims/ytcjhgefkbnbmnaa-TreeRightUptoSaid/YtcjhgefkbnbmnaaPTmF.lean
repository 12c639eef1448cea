/- The document's Nodes; many, of the tree's laws. -/
import Derived.Test.YtcjhgefkbnbmnaaPTmE
import Derived.Test.YtcjhgefkbnbmnaaPD
import Derived.Test.YtcjhgefkbnbmnaaPE
namespace Go.Proofs.Ytcjhgefkbnbmnaa
open Go.RowKit LM
set_option linter.unusedVariables false

/-! ### The Kids by their numbers -/
def TF.get (f : TF) (i : Nat) : TH × TF := (f.toList[i]?).getD (⟨0, ⟨#[]⟩, ⟨#[]⟩, 0, false, ⟨0, ⟨#[]⟩, 0⟩, .nil⟩, .nil)
theorem TF.get_zero (h : TH) (k r : TF) : (TF.cons h k r).get 0 = (h, k) := rfl
theorem TF.get_succ (h : TH) (k r : TF) (i : Nat) : (TF.cons h k r).get (i + 1) = r.get i := by simp [TF.get, TF.toList]
theorem TFAt.get {w : World} : ∀ {f : TF} {b o : Nat}, TFAt w f b o → ∀ i, i < f.len →
    ∃ qa ca q cap, THAt w b (o + i * 10) (f.get i).1 qa ca q (f.get i).2.len cap ∧ SlF w qa ca (f.get i).1.ak ∧ TSl w q cap (f.get i).2
  | .nil, _, _, _, i, hi => by simp [TF.len] at hi
  | .cons h k r, b, o, ⟨qa, ca, q, cap, hh, ha, hk, hr⟩, 0, _ => ⟨qa, ca, q, cap, by rw [TF.get_zero]; simpa using hh, ha, ⟨hh.lc, hh.cm, hk⟩⟩
  | .cons h k r, b, o, ⟨qa, ca, q, cap, hh, ha, hk, hr⟩, i + 1, hi => by
    obtain ⟨qa', ca', q', cap', h1, h2, h3⟩ := TFAt.get hr i (by simp [TF.len] at hi; omega)
    rw [TF.get_succ]
    exact ⟨qa', ca', q', cap', by rw [show o + (i + 1) * 10 = o + 10 + i * 10 by omega]; exact h1, h2, h3⟩
theorem TF.get_size : ∀ {f : TF} {i : Nat}, i < f.len → 1 + (f.get i).2.size ≤ f.size
  | .nil, i, hi => by simp [TF.len] at hi
  | .cons h k r, 0, _ => by rw [TF.get_zero]; simp only [TF.size]; omega
  | .cons h k r, i + 1, hi => by
    rw [TF.get_succ]
    have := TF.get_size (f := r) (i := i) (by simp [TF.len] at hi; omega)
    simp only [TF.size]; omega
theorem TF.ok_get {f : TF} (h : f.ok) : ∀ i, i < f.len → (f.get i).1.ok ∧ (f.get i).2.ok := by
  induction f with
  | nil => intro i hi; simp [TF.len] at hi
  | cons h' k r _ hr =>
    intro i hi
    cases i with
    | zero => exact ⟨h.1, h.2.1⟩
    | succ i => rw [TF.get_succ]; exact hr h.2.2 i (by simp [TF.len] at hi; omega)

/-- A node as it lies. -/
structure TV where
  t : TH × TF
  qa : Option Addr
  ca : Nat
  q : Option Addr
  cap : Nat
def TV.enc (p : TV) : List Value := (tmV p.t.1 p.qa p.ca p.q p.t.2.len p.cap).toList
def tvCells (l : List TV) : List Value := l.flatMap TV.enc
theorem tvCells_append (a b : List TV) : tvCells (a ++ b) = tvCells a ++ tvCells b := by simp [tvCells]
theorem length_tvCells (l : List TV) : (tvCells l).length = l.length * 10 := by
  induction l with
  | nil => rfl
  | cons p l ih => show (TV.enc p ++ tvCells l).length = _; rw [List.length_append, ih]; simp [TV.enc]; omega
theorem tv_one (l : List TV) : ∀ u ∈ tvCells l, u.oneCell' = true := by
  intro u hu
  obtain ⟨p, _, hp⟩ := List.mem_flatMap.1 hu
  simp [TV.enc] at hp
  rcases hp with rfl | rfl | rfl | rfl | rfl | rfl | rfl | rfl | rfl | rfl <;> rfl
theorem tvCells_get : ∀ (l : List TV) (i : Nat) (p : TV), l[i]? = some p → ∀ c, c < 10 → (tvCells l)[i * 10 + c]? = p.enc[c]?
  | [], i, p, h, c, _ => by simp at h
  | x :: l, 0, p, h, c, hc => by
    simp at h; subst h
    show (TV.enc x ++ tvCells l)[0 * 10 + c]? = _
    rw [Nat.zero_mul, Nat.zero_add, List.getElem?_append_left (by simp [TV.enc]; omega)]
  | x :: l, i + 1, p, h, c, hc => by
    have := tvCells_get l i p (by simpa using h) c hc
    have e : tvCells (x :: l) = TV.enc x ++ tvCells l := rfl
    rw [e, List.getElem?_append_right (by simp [TV.enc]; omega), ← this]
    congr 1
    simp [TV.enc]; omega
/-- What a node as it lies refers to. -/
def TV.ok (w : World) (p : TV) : Prop := SlF w p.qa p.ca p.t.1.ak ∧ TSl w p.q p.cap p.t.2
theorem TV.ok.below {w w' : World} {p : TV} (h : p.ok w) (hb : Below w.heap.size w w') : p.ok w' := ⟨h.1.below hb, h.2.below hb⟩

/-- The nodes of the first j trees. -/
def tpreF : TF → Nat → List (TH × TF)
  | .nil, _ => []
  | .cons _ _ _, 0 => []
  | .cons h k r, j + 1 => (h, k) :: (k.flat ++ tpreF r j)
theorem tpreF_zero (f : TF) : tpreF f 0 = [] := by cases f <;> rfl
theorem tpreF_succ : ∀ {f : TF} {j : Nat}, j < f.len → tpreF f (j + 1) = tpreF f j ++ ((f.get j) :: (f.get j).2.flat)
  | .nil, _, h => by simp [TF.len] at h
  | .cons h k r, 0, _ => by rw [TF.get_zero]; show (h, k) :: (k.flat ++ tpreF r 0) = _; rw [tpreF_zero]; simp [tpreF]
  | .cons h k r, j + 1, hj => by
    rw [TF.get_succ]
    show (h, k) :: (k.flat ++ tpreF r (j + 1)) = (h, k) :: (k.flat ++ tpreF r j) ++ _
    rw [tpreF_succ (f := r) (j := j) (by simpa [TF.len] using hj)]
    simp
theorem tpreF_all : ∀ (f : TF), tpreF f f.len = f.flat
  | .nil => rfl
  | .cons h k r => by show (h, k) :: (k.flat ++ tpreF r r.len) = _; rw [tpreF_all r]; simp [TF.flat]
theorem tpreF_le : ∀ (f : TF) (j : Nat), (tpreF f j).length ≤ f.size
  | .nil, _ => by simp [tpreF]
  | .cons _ _ _, 0 => by simp [tpreF]
  | .cons h k r, j + 1 => by
    have := tpreF_le r j
    have e : (tpreF (.cons h k r) (j + 1)).length = 1 + k.flat.length + (tpreF r j).length := by simp [tpreF]; omega
    rw [e, TF.length_flat]; simp only [TF.size]; omega

/-- What Nodes answers. -/
def NodesPost (w0 w : World) (h : TH) (k : TF) (e : Ending) (w' : World) : Prop :=
  ∃ v ps, e = .returned v ∧ w'.ownsRow w.heap.size 43 10 v (1 + k.size) (tvCells ps) ∧ ps.map TV.t = (h, k) :: k.flat ∧ (∀ p ∈ ps, TV.ok w0 p) ∧ Below w.heap.size w w'

theorem info_term : (Try.prog.info? 43).map (fun i => (i.zero, i.size, i.bytes)) = some (some (.agg #[.int .u8 0, .string ⟨#[]⟩, .string ⟨#[]⟩, .int .i64 0, .bool false, .int .u8 0, .string ⟨#[]⟩, .int .i64 0, .slice none 0 0, .slice none 0 0]), 10, 136) := by kernel_rfl

/-- What Nodes keeps while it goes along the Kids. -/
structure NtI (w0 w : World) (h : TH) (k : TF) (qa : Option Addr) (ca : Nat) (q : Option Addr) (L cap j : Nat) (v : Value) (wr : World) : Prop where
  le : j ≤ L
  ps : ∃ ps, wr.ownsRow (w.heap.size + 1) 43 10 v (1 + (tpreF k j).length) (tvCells ps) ∧ ps.map TV.t = (h, k) :: tpreF k j ∧ ∀ p ∈ ps, TV.ok w0 p
  box : wr.heap[w.heap.size]? = some (.cells (tmV h qa ca q L cap) 43 (0, 0))
  below : Below w.heap.size w wr
  room : w.heap.size + 1 ≤ wr.heap.size

theorem row10 {w : World} {b : Nat} {v0 v1 v2 v3 v4 v5 v6 v7 v8 v9 : Value} {t : TypeId} (h : w.heap[b]? = some (.cells #[v0, v1, v2, v3, v4, v5, v6, v7, v8, v9] t (0, 0))) :
    w.cell? ⟨b, 0, none⟩ = some v0 ∧ w.cell? ⟨b, 1, none⟩ = some v1 ∧ w.cell? ⟨b, 2, none⟩ = some v2 ∧ w.cell? ⟨b, 3, none⟩ = some v3 ∧ w.cell? ⟨b, 4, none⟩ = some v4 ∧ w.cell? ⟨b, 5, none⟩ = some v5 ∧ w.cell? ⟨b, 6, none⟩ = some v6 ∧ w.cell? ⟨b, 7, none⟩ = some v7 ∧ w.cell? ⟨b, 8, none⟩ = some v8 ∧ w.cell? ⟨b, 9, none⟩ = some v9 := by
  simp [World.cell?, h]
theorem NtI.start (w0 w : World) (h : TH) (k : TF) (qa : Option Addr) (ca : Nat) (q : Option Addr) (cap : Nat) (ha : SlF w0 qa ca h.ak) (hs : TSl w0 q cap k) :
    NtI w0 w h k qa ca q k.len cap 0 (.slice (some ⟨w.heap.size + 1, 0, none⟩) 1 1) ((w.alloc (.cells (tmV h qa ca q k.len cap) 43)).alloc (.cells (tmV h qa ca q k.len cap) 43)) := by
  have hb : Below w.heap.size w ((w.alloc (.cells (tmV h qa ca q k.len cap) 43)).alloc (.cells (tmV h qa ca q k.len cap) 43)) := (below_box _ _).alloc (by simp) _
  refine ⟨Nat.zero_le _, ⟨[⟨(h, k), qa, ca, q, cap⟩], ?_, by rw [tpreF_zero]; rfl, fun p hp => ?_⟩, ?_, hb, by simp⟩
  · rw [tpreF_zero]
    refine ⟨rfl, .inr ⟨_, 1, tmV h qa ca q k.len cap, rfl, Nat.le_refl _, ?_, Nat.le_refl _, by decide, rfl, rfl⟩⟩
    have := World.alloc_heap_new (w.alloc (.cells (tmV h qa ca q k.len cap) 43)) (.cells (tmV h qa ca q k.len cap) 43)
    rwa [World.size_alloc] at this
  · simp at hp; subst hp; exact ⟨ha, hs⟩
  · exact ((below_box _ _).block _ (by simp)).trans (World.alloc_heap_new w _)

theorem NtI.go {w0 w : World} {h : TH} {k : TF} {qa : Option Addr} {ca : Nat} {q : Option Addr} {L cap j : Nat} {v v' : Value} {wr w1 w2 : World} {ps ps1 : List TV} (hI : NtI w0 w h k qa ca q L cap j v wr) (hL : k.len = L) (hj : j < L)
    (hp : ps.map TV.t = (h, k) :: tpreF k j) (ho : ∀ p ∈ ps, TV.ok w0 p) (hb1 : Below wr.heap.size wr w1) (hp1 : ps1.map TV.t = (k.get j) :: (k.get j).2.flat) (ho1 : ∀ p ∈ ps1, TV.ok w0 p)
    (hv : ∀ r, v.ownBlock = some r → w.heap.size + 1 ≤ r)
    (hown : w2.ownsRow (w.heap.size + 1) 43 10 v' ((1 + (tpreF k j).length) + (1 + (k.get j).2.size)) (tvCells ps ++ tvCells ps1)) (hg : w1.grownBy w2 v.ownBlock) :
    NtI w0 w h k qa ca q L cap (j + 1) v' w2 := by
  have hj' : j < k.len := by omega
  have hlen : (tpreF k (j + 1)).length = (tpreF k j).length + (1 + (k.get j).2.size) := by rw [tpreF_succ hj']; simp [TF.length_flat]; omega
  have l1 := (Array.getElem?_eq_some_iff.1 hI.box).1
  have hb2 : Below w.heap.size w w2 := (hI.below.trans (hb1.mono hI.below.size)).grown hg (Nat.le_trans hI.below.size hb1.size) (fun r e => by have := hv r e; omega)
  refine ⟨hj, ⟨ps ++ ps1, ?_, ?_, fun p hp => ?_⟩, ?_, hb2, ?_⟩
  · rw [tvCells_append, hlen]
    have : 1 + ((tpreF k j).length + (1 + (k.get j).2.size)) = (1 + (tpreF k j).length) + (1 + (k.get j).2.size) := by omega
    rw [this]; exact hown
  · rw [tpreF_succ hj', List.map_append, hp, hp1]; rfl
  · rcases List.mem_append.1 hp with h | h
    · exact ho p h
    · exact ho1 p h
  · exact (hg.block _ (Nat.lt_of_lt_of_le l1 hb1.size) (fun e => by have := hv _ e.symm; omega)).trans ((hb1.block _ l1).trans hI.box)
  · have := hI.room; have := hb1.size; have := hg.size; omega

set_option maxRecDepth 100000 in
set_option maxHeartbeats 4000000 in
theorem Nodes_any (w0 : World) (m : Nat) : ∀ (h : TH) (k : TF) (qa : Option Addr) (ca : Nat) (q : Option Addr) (cap : Nat) (w : World), k.size < m → 1 + k.size ≤ 1073741824 → Below w0.heap.size w0 w → SlF w0 qa ca h.ak → TSl w0 q cap k →
    Calls Try.prog 33 #[.agg (tmV h qa ca q k.len cap)] w (NodesPost w0 w h k) := by
  induction m with
  | zero => intro h k qa ca q cap w hm; omega
  | succ m ih =>
    intro h k qa ca q cap w hm hsz hbw hal hsl
    obtain ⟨i0, hi, hz0, hz1, hz2⟩ := info_parts info_term
    have HIH : Hid (∀ j, j < k.len → ∀ (qa' : Option Addr) (ca' : Nat) (q' : Option Addr) (cap' : Nat) (w' : World), Below w0.heap.size w0 w' → SlF w0 qa' ca' (k.get j).1.ak → TSl w0 q' cap' (k.get j).2 → Calls Try.prog 33 #[.agg (tmV (k.get j).1 qa' ca' q' (k.get j).2.len cap')] w' (NodesPost w0 w' (k.get j).1 (k.get j).2)) :=
      Lib.hid fun j hj qa' ca' q' cap' w' hb ha hs => ih _ _ qa' ca' q' cap' w' (by have := TF.get_size hj; omega) (by have := TF.get_size hj; omega) hb ha hs
    have HST := Lib.hid (NtI.start w0 w h k qa ca q cap hal hsl)
    have HE : Hid (∀ v w', NtI w0 w h k qa ca q k.len cap k.len v w' → NodesPost w0 w h k (.returned v) w') := Lib.hid (fun v w' hI => by
      obtain ⟨ps, h1, h2, h3⟩ := hI.ps
      rw [tpreF_all] at h1 h2
      rw [TF.length_flat] at h1
      exact ⟨v, ps, rfl, own_base h1 (by omega), h2, h3, hI.below⟩)
    have hlc := hsl.lc
    have hcm := hsl.cm
    unfold maxLen at hcm
    have HSL := Lib.hid hsl
    have HSZ := Lib.hid hsz
    have HBW := Lib.hid hbw
    clear hsl hal ih hm hsz hbw
    generalize hLd : k.len = L at *
    have HLD := Lib.hid hLd
    clear hLd
    unfold tmV at HST HIH ⊢
    go_enter Try.func33, Try.ntmps33
    go_wp2
    go_loopw [3, 4] (fun v i wr => ∃ j : Nat, i = .int .i64 j ∧ NtI w0 w h k qa ca q L cap j v wr) (fun _ i _ => L - (intOf i).toNat)
    case atStart => exact ⟨0, rfl, HST.out⟩
    case round =>
      obtain ⟨j, rfl, hI⟩ := hrel
      obtain ⟨y0, y1, y2, y3, y4, y5, y6, y7, y8, y9⟩ := row10 hI.box
      have hjL := hI.le
      obtain ⟨ps, hown, hps, hpo⟩ := hI.ps
      have hvb : ∀ r, Value.ownBlock _ = some r → w.heap.size + 1 ≤ r := fun r e => (hown.lt r e).1
      have HI := Lib.hid hI
      have HV := Lib.hid hvb
      have HO := Lib.hid hown
      have HPS := Lib.hid hps
      have HPO := Lib.hid hpo
      clear hI hown hps hvb hpo
      by_cases hj : j < L
      · have hjk : j < k.len := by rw [HLD.out]; exact hj
        have hb0 := below_go2 HBW.out HI.out.below
        obtain ⟨b, o, rfl, hfo⟩ := (HSL.out.at_ (Nat.lt_of_le_of_lt (Nat.zero_le _) hjk))
        obtain ⟨qa1, ca1, q1, cap1, hd0, ha1, hs1⟩ := hfo.get j hjk
        have hd1 := hd0.same (hb0.block _ hd0.lt)
        have c0 := hd1.c0
        have c1 := hd1.c1
        have c2 := hd1.c2
        have c3 := hd1.c3
        have c4 := hd1.c4
        have c5 := hd1.c5
        have c6 := hd1.c6
        have c7 := hd1.c7
        have c8 := hd1.c8
        have c9 := hd1.c9
        have HC := Lib.hid (HIH.out j hj qa1 ca1 q1 cap1 _ hb0 ha1 hs1)
        clear hd0 hd1 hfo hs1 ha1 hb0
        go_wp2_with (first
          | (go_at_call 33; refine HC.out.mono ?_; rintro e w1 ⟨v1, ps1, rfl, own1, hp1, ho1, hb1⟩; obtain ⟨g1, cp1, cur1, rfl, hg1, hb1g, hcp1, hcm1, hcl1⟩ := own_some own1 (by omega); have HB1 := Lib.hid hb1; have HP1 := Lib.hid hp1; have HO2 := Lib.hid ho1; have HL1 := Lib.hid hcl1; have HO1 := Lib.hid (own_grown HO.out hb1); have HN1 := Lib.hid own1.1; have HS1 := Lib.hid (Nat.le_trans HI.out.room hb1.size); clear hb1 hp1 hcl1 own1 hb1g hg1 ho1)
          | (at_builtin; refine wpList_append_own _ rfl _ _ 41 rfl (w.heap.size + 1) 43 i0 _ 10 136 Try.underlying41 hi hz0 hz1 hz2 rfl (by decide) _ _ _ rfl HO1.out ⟨g1, 0, none⟩ (1 + (k.get j).2.size) cp1 (tvCells ps1) rfl HN1.out ?c1 ?c2 ?c3 ?c4 HS1.out ?_))
        case c1 => intro i u hu; have := HL1.out i u hu; rw [Addr.add_lit]; simpa using this
        case c2 => exact tv_one ps1
        case c3 => have := tpreF_le k (j + 1); rw [tpreF_succ hjk] at this; simp [TF.length_flat] at this; have := HSZ.out; unfold maxLen; omega
        case c4 => have := tpreF_le k (j + 1); rw [tpreF_succ hjk] at this; simp [TF.length_flat] at this; have := HSZ.out; omega
        intro v' w2 hown2 hg2 _
        have HG := Lib.hid (HI.out.go HLD.out hj HPS.out HPO.out HB1.out HP1.out HO2.out HV.out hown2 hg2)
        clear hown2 hg2 c0 c1 c2 c3 c4 c5 c6 c7 c8 c9 y0 y1 y2 y3 y4 y5 y6 y7 y8 y9
        go_wp2
        go_roundw
        case rel => exact ⟨j + 1, by go_num, HG.out⟩
        case measure => simp [intOf]; omega
      · have hje : j = L := by omega
        have HJ := Lib.hid hje
        clear hje
        go_wp2
        go_ret
        have hI2 := HI.out
        rw [HJ.out] at hI2
        exact HE.out _ _ hI2
end Go.Proofs.Ytcjhgefkbnbmnaa
