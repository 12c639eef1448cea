/- The document's Parts. -/
import Derived.Test.YtmjijmkdeblefaaKdR
namespace Go.Proofs.Ytmjijmkdeblefaa
open Go.RowKit LM
set_option linter.unusedVariables false

/-- A part as it lies: its head, its Kids' place. -/
structure PV where
  h : Hd
  q : Option Addr
  len : Nat
  cap : Nat
def PV.enc (p : PV) : List Value := [.int .u8 p.h.op, .string p.h.name, .int .i64 p.h.n, .slice p.q p.len p.cap]
def pvCells (l : List PV) : List Value := l.flatMap PV.enc
theorem pvCells_append (a b : List PV) : pvCells (a ++ b) = pvCells a ++ pvCells b := by simp [pvCells]
theorem length_pvCells (l : List PV) : (pvCells l).length = l.length * 4 := by
  induction l with
  | nil => rfl
  | cons p l ih => show (PV.enc p ++ pvCells l).length = _; rw [List.length_append, ih]; simp [PV.enc]; omega
theorem pv_one (l : List PV) : ∀ u ∈ pvCells l, u.oneCell' = true := by
  intro u hu
  obtain ⟨p, _, hp⟩ := List.mem_flatMap.1 hu
  simp [PV.enc] at hp
  rcases hp with rfl | rfl | rfl | rfl <;> rfl
theorem pvCells_get : ∀ (l : List PV) (i : Nat) (p : PV), l[i]? = some p → (pvCells l)[i * 4]? = some (.int .u8 p.h.op) ∧ (pvCells l)[i * 4 + 2]? = some (.int .i64 p.h.n)
  | [], i, p, h => by simp at h
  | x :: l, 0, p, h => by simp at h; subst h; exact ⟨rfl, rfl⟩
  | x :: l, i + 1, p, h => by
    have := pvCells_get l i p (by simpa using h)
    have e : pvCells (x :: l) = [.int .u8 x.h.op, .string x.h.name, .int .i64 x.h.n, .slice x.q x.len x.cap] ++ pvCells l := rfl
    have e1 : (i + 1) * 4 = i * 4 + 4 := by omega
    rw [e, e1]
    refine ⟨?_, ?_⟩
    · rw [List.getElem?_append_right (by simp)]; simpa using this.1
    · rw [List.getElem?_append_right (by simp)]
      have : i * 4 + 4 + 2 - [Value.int .u8 x.h.op, .string x.h.name, .int .i64 x.h.n, .slice x.q x.len x.cap].length = i * 4 + 2 := by simp
      rw [this]; exact ‹_ ∧ _›.2

/-- The heads of the first j trees, each ahead of its own. -/
def preF : Fo → Nat → List Hd
  | .nil, _ => []
  | .cons _ _ _, 0 => []
  | .cons h k r, j + 1 => h :: (k.flat.map (·.1) ++ preF r j)
theorem preF_zero (f : Fo) : preF f 0 = [] := by cases f <;> rfl
theorem preF_succ : ∀ {f : Fo} {j : Nat}, j < f.len → preF f (j + 1) = preF f j ++ ((f.get j).1 :: (f.get j).2.flat.map (·.1))
  | .nil, _, h => by simp [Fo.len] at h
  | .cons h k r, 0, _ => by rw [Fo.get_zero]; show h :: (k.flat.map (·.1) ++ preF r 0) = _; rw [preF_zero]; simp [preF]
  | .cons h k r, j + 1, hj => by
    rw [Fo.get_succ]
    show h :: (k.flat.map (·.1) ++ preF r (j + 1)) = h :: (k.flat.map (·.1) ++ preF r j) ++ _
    rw [preF_succ (f := r) (j := j) (by simpa [Fo.len] using hj)]
    simp
theorem preF_all : ∀ (f : Fo), preF f f.len = f.flat.map (·.1)
  | .nil => rfl
  | .cons h k r => by show h :: (k.flat.map (·.1) ++ preF r r.len) = _; rw [preF_all r]; simp [Fo.flat]
theorem preF_le : ∀ (f : Fo) (j : Nat), (preF f j).length ≤ f.size
  | .nil, _ => by simp [preF]
  | .cons _ _ _, 0 => by simp [preF]
  | .cons h k r, j + 1 => by
    have := preF_le r j
    have e : (preF (.cons h k r) (j + 1)).length = 1 + k.flat.length + (preF r j).length := by simp [preF]; omega
    rw [e, Fo.length_flat]; simp only [Fo.size]; omega

/-- What Parts answers. -/
def PartsPost (w : World) (h : Hd) (k : Fo) (e : Ending) (w' : World) : Prop :=
  ∃ v ps, e = .returned v ∧ w'.ownsRow w.heap.size 25 4 v (1 + k.size) (pvCells ps) ∧ ps.map PV.h = h :: k.flat.map (·.1) ∧ Below w.heap.size w w'

/-- What Parts keeps while it goes along the Kids. -/
structure PtI (w : World) (h : Hd) (k : Fo) (q : Option Addr) (L cap j : Nat) (v : Value) (wr : World) : Prop where
  le : j ≤ L
  ps : ∃ ps, wr.ownsRow (w.heap.size + 1) 25 4 v (1 + (preF k j).length) (pvCells ps) ∧ ps.map PV.h = h :: preF k j
  box : wr.heap[w.heap.size]? = some (.cells #[.int .u8 h.op, .string h.name, .int .i64 h.n, .slice q L cap] 25 (0, 0))
  below : Below w.heap.size w wr
  room : w.heap.size + 1 ≤ wr.heap.size

theorem own_grown {w w' : World} {B : Nat} {e : TypeId} {size : Nat} {v : Value} {n : Nat} {xs : List Value} (h : w.ownsRow B e size v n xs) (hb : Below w.heap.size w w') : w'.ownsRow B e size v n xs := by
  refine ⟨h.1, h.2.imp id ?_⟩
  rintro ⟨g, cap, cur, h1, h2, h3, h4⟩
  exact ⟨g, cap, cur, h1, h2, (hb.block g (Array.getElem?_eq_some_iff.1 h3).1).trans h3, h4⟩

theorem PtI.start (w : World) (h : Hd) (k : Fo) (q : Option Addr) (cap : Nat) :
    PtI w h k q k.len cap 0 (.slice (some ⟨w.heap.size + 1, 0, none⟩) 1 1) ((w.alloc (.cells #[.int .u8 h.op, .string h.name, .int .i64 h.n, .slice q k.len cap] 25)).alloc (.cells #[.int .u8 h.op, .string h.name, .int .i64 h.n, .slice q k.len cap] 25)) := by
  refine ⟨Nat.zero_le _, ⟨[⟨h, q, k.len, cap⟩], ?_, by rw [preF_zero]; rfl⟩, ?_, (below_box _ _).alloc (by simp) _, by simp⟩
  · rw [preF_zero]
    refine ⟨rfl, .inr ⟨_, 1, #[.int .u8 h.op, .string h.name, .int .i64 h.n, .slice q k.len cap], rfl, Nat.le_refl _, ?_, Nat.le_refl _, by decide, rfl, rfl⟩⟩
    have := World.alloc_heap_new (w.alloc (.cells #[.int .u8 h.op, .string h.name, .int .i64 h.n, .slice q k.len cap] 25)) (.cells #[.int .u8 h.op, .string h.name, .int .i64 h.n, .slice q k.len cap] 25)
    rwa [World.size_alloc] at this
  · exact ((below_box _ _).block _ (by simp)).trans (World.alloc_heap_new w _)

theorem PtI.go {w : World} {h : Hd} {k : Fo} {q : Option Addr} {L cap j : Nat} {v v' : Value} {wr w1 w2 : World} {ps ps1 : List PV} (hI : PtI w h k q L cap j v wr) (hL : k.len = L) (hj : j < L)
    (hp : ps.map PV.h = h :: preF k j) (hb1 : Below wr.heap.size wr w1) (hp1 : ps1.map PV.h = (k.get j).1 :: (k.get j).2.flat.map (·.1))
    (hv : ∀ r, v.ownBlock = some r → w.heap.size + 1 ≤ r)
    (hown : w2.ownsRow (w.heap.size + 1) 25 4 v' ((1 + (preF k j).length) + (1 + (k.get j).2.size)) (pvCells ps ++ pvCells ps1)) (hg : w1.grownBy w2 v.ownBlock) :
    PtI w h k q L cap (j + 1) v' w2 := by
  have hj' : j < k.len := by omega
  have hlen : (preF k (j + 1)).length = (preF k j).length + (1 + (k.get j).2.size) := by rw [preF_succ hj']; simp [Fo.length_flat]; omega
  have l1 := (Array.getElem?_eq_some_iff.1 hI.box).1
  refine ⟨hj, ⟨ps ++ ps1, ?_, ?_⟩, ?_, ?_, ?_⟩
  · rw [pvCells_append, hlen]
    have : 1 + ((preF k j).length + (1 + (k.get j).2.size)) = (1 + (preF k j).length) + (1 + (k.get j).2.size) := by omega
    rw [this]; exact hown
  · rw [preF_succ hj', List.map_append, hp, hp1]; rfl
  · exact (hg.block _ (Nat.lt_of_lt_of_le l1 hb1.size) (fun e => by have := hv _ e.symm; omega)).trans ((hb1.block _ l1).trans hI.box)
  · exact (hI.below.trans (hb1.mono hI.below.size)).grown hg (Nat.le_trans hI.below.size hb1.size) (fun r e => by have := hv r e; omega)
  · have := hI.room; have := hb1.size; have := hg.size; omega

set_option maxRecDepth 100000 in
set_option maxHeartbeats 2000000 in
theorem Parts_any (m : Nat) : ∀ (h : Hd) (k : Fo) (q : Option Addr) (cap : Nat) (w : World), k.size < m → 1 + k.size ≤ 1099511627776 → SlF w q cap k →
    Calls Try.prog 53 #[.agg #[.int .u8 h.op, .string h.name, .int .i64 h.n, .slice q k.len cap]] w (PartsPost w h k) := by
  induction m with
  | zero => intro h k q cap w hm; omega
  | succ m ih =>
    intro h k q cap w hm hsz hsl
    obtain ⟨i0, hi, hz0, hz1, hz2⟩ := info_parts info25
    have HIH : Hid (∀ j, j < k.len → ∀ (q' : Option Addr) (cap' : Nat) (w' : World), SlF w' q' cap' (k.get j).2 → Calls Try.prog 53 #[.agg #[.int .u8 (k.get j).1.op, .string (k.get j).1.name, .int .i64 (k.get j).1.n, .slice q' (k.get j).2.len cap']] w' (PartsPost w' (k.get j).1 (k.get j).2)) :=
      Lib.hid fun j hj q' cap' w' hs => ih _ _ q' cap' w' (by have := Fo.get_size hj; omega) (by have := Fo.get_size hj; omega) hs
    have HST := Lib.hid (PtI.start w h k q cap)
    have HE : Hid (∀ v w', PtI w h k q k.len cap k.len v w' → PartsPost w h k (.returned v) w') := Lib.hid (fun v w' hI => by
      obtain ⟨ps, h1, h2⟩ := hI.ps
      rw [preF_all] at h1 h2
      rw [List.length_map, Fo.length_flat] at h1
      exact ⟨v, ps, rfl, own_base h1 (by omega), h2, hI.below⟩)
    have hlc := hsl.lc
    have hcm := hsl.cm
    unfold maxLen at hcm
    have HSL := Lib.hid hsl
    have HSZ := Lib.hid hsz
    clear hsl ih hm hsz
    generalize hLd : k.len = L at *
    have HLD := Lib.hid hLd
    clear hLd
    have HOP : Hid (∀ e w', PartsPost w h k e w' = PartsPost w h k e w') := Lib.hid fun _ _ => rfl
    go_enter Try.func53, Try.ntmps53
    go_wp2
    go_loopw [3, 4] (fun v i wr => ∃ j : Nat, i = .int .i64 j ∧ PtI w h k q L cap j v wr) (fun _ i _ => L - (intOf i).toNat)
    case atStart => exact ⟨0, rfl, HST.out⟩
    case round =>
      obtain ⟨j, rfl, hI⟩ := hrel
      obtain ⟨y0, y1, y2, y3, _⟩ := row4 hI.box
      have hjL := hI.le
      obtain ⟨ps, hown, hps⟩ := hI.ps
      have hvb : ∀ r, Value.ownBlock _ = some r → w.heap.size + 1 ≤ r := fun r e => (hown.lt r e).1
      have HI := Lib.hid hI
      have HV := Lib.hid hvb
      have HO := Lib.hid hown
      have HPS := Lib.hid hps
      clear hI hown hps hvb
      by_cases hj : j < L
      · have hjk : j < k.len := by rw [HLD.out]; exact hj
        obtain ⟨b, o, rfl, hfo⟩ := ((HSL.out.below HI.out.below).at_ (Nat.lt_of_le_of_lt (Nat.zero_le _) hjk))
        obtain ⟨q1, cap1, hd1, hs1⟩ := hfo.get j hjk
        have c0 := hd1.c0
        have c1 := hd1.c1
        have c2 := hd1.c2
        have c3 := hd1.c3
        have HC := Lib.hid (HIH.out j hj q1 cap1 _ hs1)
        clear hd1 hfo hs1
        go_wp2_with (first
          | (go_at_call 53; refine HC.out.mono ?_; rintro e w1 ⟨v1, ps1, rfl, own1, hp1, hb1⟩; obtain ⟨g1, cp1, cur1, rfl, hg1, hb1g, hcp1, hcm1, hcl1⟩ := own_some own1 (by omega); have HB1 := Lib.hid hb1; have HP1 := Lib.hid hp1; have HL1 := Lib.hid hcl1; have HO1 := Lib.hid (own_grown HO.out hb1); have HN1 := Lib.hid own1.1; have HS1 := Lib.hid (Nat.le_trans HI.out.room hb1.size); clear hb1 hp1 hcl1 own1 hb1g hg1)
          | (at_builtin; refine wpList_append_own _ rfl _ _ 23 rfl (w.heap.size + 1) 25 i0 (.agg #[.int .u8 0, .string ⟨#[]⟩, .int .i64 0, .slice none 0 0]) 4 56 Try.underlying23 hi hz0 hz1 hz2 rfl (by decide) _ _ _ rfl HO1.out ⟨g1, 0, none⟩ (1 + (k.get j).2.size) cp1 (pvCells ps1) rfl HN1.out ?c1 ?c2 ?c3 ?c4 HS1.out ?_))
        case c1 => intro i u hu; have := HL1.out i u hu; rw [Addr.add_lit]; simpa using this
        case c2 => exact pv_one ps1
        case c3 => have := preF_le k (j + 1); rw [preF_succ hjk] at this; simp [Fo.length_flat] at this; have := HSZ.out; unfold maxLen; omega
        case c4 => have := preF_le k (j + 1); rw [preF_succ hjk] at this; simp [Fo.length_flat] at this; have := HSZ.out; omega
        intro v' w2 hown2 hg2 _
        have HG := Lib.hid (HI.out.go HLD.out hj HPS.out HB1.out HP1.out HV.out hown2 hg2)
        clear hown2 hg2
        go_wp2
        go_roundw
        case rel => exact ⟨j + 1, by go_num, HG.out⟩
        case measure => simp [intOf]; omega
      · have hje : j = L := by omega
        have HJ := Lib.hid hje
        clear hje
        go_wp2
        go_ret
        have hI2 := HI.out
        rw [HJ.out] at hI2
        exact HE.out _ _ hI2

end Go.Proofs.Ytmjijmkdeblefaa
