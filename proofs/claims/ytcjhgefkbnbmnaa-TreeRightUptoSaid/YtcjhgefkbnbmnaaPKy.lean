/- The canonical form of a canonical form: plain. -/
import Derived.Deep.RegionWith
import Derived.Test.YtcjhgefkbnbmnaaPKx
namespace Go.Proofs.Ytcjhgefkbnbmnaa
open Go.RowKit LM
set_option linter.unusedVariables false

theorem rowF_rowT {t : Hd × Fo} (ht : t.1.op ≠ 11) : ∀ L : List (ByteArray × Hd × Fo), rowF (rowT t L).1 (rowT t L).2 = (L, t)
  | [] => rowF_type ht t.2
  | (nm, h, k) :: r => by
    have ih := rowF_rowT ht r
    simp only [rowT]
    rw [rowF, if_pos rfl, ih]
end Go.Proofs.Ytcjhgefkbnbmnaa

/- The document's Static and Vars. -/
namespace Go.Proofs.Ytcjhgefkbnbmnaa
open Go.RowKit LM
set_option linter.unusedVariables false

/-- All parts in a slice: their heads. -/
structure PvAt (w : World) (a : Option Addr) (c : Nat) (hs : List Hd) : Prop where
  lc : hs.length ≤ c
  at_ : 0 < hs.length → ∃ b, a = some ⟨b, 0, none⟩ ∧ b < w.heap.size ∧ ∀ i (h : i < hs.length), w.cell? ⟨b, i * 4, none⟩ = some (.int .u8 hs[i].op) ∧ w.cell? ⟨b, i * 4 + 2, none⟩ = some (.int .i64 hs[i].n)
theorem PvAt.below {w w' : World} {a : Option Addr} {c : Nat} {hs : List Hd} (h : PvAt w a c hs) (hb : Below w.heap.size w w') : PvAt w' a c hs :=
  ⟨h.lc, fun h0 => by
    obtain ⟨b, e, hlt, hc⟩ := h.at_ h0
    exact ⟨b, e, Nat.lt_of_lt_of_le hlt hb.size, fun i hi => ⟨(hb.cell (p := ⟨b, i * 4, none⟩) hlt).trans (hc i hi).1, (hb.cell (p := ⟨b, i * 4 + 2, none⟩) hlt).trans (hc i hi).2⟩⟩⟩
/-- What Parts tells, by its heads. -/
theorem Parts_pv (h : Hd) (k : Fo) (q : Option Addr) (cap : Nat) (w : World) (hsz : 1 + k.size ≤ 1099511627776) (hsl : SlF w q cap k) :
    Calls Try.prog 53 #[.agg #[.int .u8 h.op, .string h.name, .int .i64 h.n, .slice q k.len cap]] w fun e w' => ∃ a c, e = .returned (.slice a ((flatL [(h, k)]).map Prod.fst).length c) ∧ PvAt w' a c ((flatL [(h, k)]).map Prod.fst) ∧ Below w.heap.size w w' :=
  (Parts_any (k.size + 1) h k q cap w (by omega) hsz hsl).mono fun e w' ⟨v, ps, he, hown, hps, hb⟩ => by
    have hl : ((flatL [(h, k)]).map Prod.fst).length = 1 + k.size := by rw [List.length_map, length_one]
    have hhs : (flatL [(h, k)]).map Prod.fst = ps.map PV.h := by rw [hps, flatL_one]; simp [Fo.flat]
    obtain ⟨g, c, cur, rfl, _, hg, hc, _, hcell⟩ := own_some hown (by omega)
    refine ⟨_, c, by rw [he, hl], ⟨by rw [hl]; exact hc, fun _ => ⟨g, rfl, (Array.getElem?_eq_some_iff.1 hg).1, fun i hi => ?_⟩⟩, hb⟩
    have hip : i < ps.length := by rw [hhs, List.length_map] at hi; exact hi
    obtain ⟨x1, x2⟩ := pvCells_get ps i ps[i] (List.getElem?_eq_getElem hip)
    have e1 : ((flatL [(h, k)]).map Prod.fst)[i] = (ps[i]).h := by
      have := List.getElem_of_eq hhs hi
      rw [this, List.getElem_map]
    rw [e1]
    have y1 := hcell _ _ x1
    have y2 := hcell _ _ x2
    simp only [Nat.zero_add] at y1 y2
    exact ⟨y1, y2⟩

def hasH (x y : Int) (hs : List Hd) : Bool := hs.any fun h => twoB x y h.op
theorem hasH_eq (x y : Int) (l : List (Hd × Fo)) : hasH x y (l.map Prod.fst) = hasB x y l := by simp [hasH, hasB, List.any_map, Function.comp_def]

set_option maxRecDepth 100000 in
set_option maxHeartbeats 1000000 in
theorem refStatic_any (h : Hd) (k : Fo) (q : Option Addr) (cap : Nat) (w : World) (hsz : 1 + k.size ≤ 1099511627776) (hsl : SlF w q cap k) :
    Calls Try.prog 24 #[.agg #[.int .u8 h.op, .string h.name, .int .i64 h.n, .slice q k.len cap]] w fun e w' => e = .returned (.bool (!hasB 3 9 (flatL [(h, k)]))) ∧ Below w.heap.size w w' := by
  have HP := Lib.hid (Parts_pv h k q cap (w.alloc (.cells #[.int .u8 h.op, .string h.name, .int .i64 h.n, .slice q k.len cap] 25)) hsz (hsl.below (below_box _ _)))
  have HL : Hid (((flatL [(h, k)]).map Prod.fst).length ≤ 1099511627776) := Lib.hid (by rw [List.length_map, length_one]; exact hsz)
  rw [← hasH_eq]
  clear hsl hsz
  generalize (flatL [(h, k)]).map Prod.fst = hs at *
  have HYES : Hid (∀ j (hd : Hd), hs[j]? = some hd → twoB 3 9 hd.op = true → (!hasH 3 9 hs) = false) := Lib.hid fun j hd h1 h2 => by
    simp only [hasH, Bool.not_eq_false', List.any_eq_true]
    exact ⟨hd, List.mem_of_getElem? h1, h2⟩
  have HNO : Hid (hasH 3 9 (hs.take hs.length) = false → (!hasH 3 9 hs) = true) := Lib.hid fun h => by rw [List.take_length] at h; rw [h]; rfl
  generalize (!hasH 3 9 hs) = r at *
  generalize k.len = Lk at *
  generalize hLd : hs.length = L at *
  have HLL := Lib.hid hLd
  have hLm := HL.out
  clear hLd
  go_enter Try.func24, Try.ntmps24
  go_wp2_with fail
  refine HP.out.mono ?_
  rintro e w1 ⟨a, c, rfl, hpv, hb1⟩
  have HB1 := Lib.hid (below_then (below_box _ _) hb1)
  have HPV := Lib.hid hpv
  have hlc := hpv.lc
  rw [HLL.out] at hlc
  clear hb1 hpv
  go_wp2
  go_loopw [4] (fun i wr => ∃ j : Nat, i = .int .i64 j ∧ j ≤ L ∧ Hid (hasH 3 9 (hs.take j) = false) ∧ Below w1.heap.size w1 wr) (fun i _ => L - (intOf i).toNat)
  case atStart => exact ⟨0, rfl, Nat.zero_le _, Lib.hid rfl, Below.refl _ _⟩
  case round =>
    obtain ⟨j, rfl, hjl, HN, hb⟩ := hrel
    have HB := Lib.hid hb
    by_cases hj : j < L
    · have hj2 : j < hs.length := by rw [HLL.out]; exact hj
      obtain ⟨b, rfl, hlt, hc⟩ := (HPV.out.below hb).at_ (by omega)
      have x0 := (hc j hj2).1
      have HJ : Hid (hasH 3 9 (hs.take (j + 1)) = twoB 3 9 (hs[j]).op) := Lib.hid (by
        have := HN.out
        unfold hasH at this ⊢
        rw [List.take_succ_eq_append_getElem hj2, List.any_append, this]; simp)
      have HY := Lib.hid (HYES.out j hs[j] (List.getElem?_eq_getElem hj2))
      clear hc hb
      generalize (hs[j]).op = o at *
      have HT : Hid (twoB 3 9 o = (decide (o = 3) || decide (o = 9))) := Lib.hid rfl
      by_cases h3 : o = 3
      · have h3' : (o == 3) = true := by simpa using h3
        have HR := Lib.hid (HY.out (by rw [HT.out]; simp [h3]))
        clear h3
        go_wp2
        go_ret
        exact ⟨ret_bool HR.out.symm, below_then HB1.out HB.out⟩
      · have h3' : (o == 3) = false := by simpa using h3
        by_cases h9 : o = 9
        · have h9' : (o == 9) = true := by simpa using h9
          have HR := Lib.hid (HY.out (by rw [HT.out]; simp [h9]))
          clear h3 h9
          go_wp2
          go_ret
          exact ⟨ret_bool HR.out.symm, below_then HB1.out HB.out⟩
        · have h9' : (o == 9) = false := by simpa using h9
          have HN2 : Hid (hasH 3 9 (hs.take (j + 1)) = false) := Lib.hid (by rw [HJ.out, HT.out]; simp [h3, h9])
          clear h3 h9
          go_wp2
          go_roundw
          case rel => exact ⟨j + 1, by go_num, by omega, HN2, HB.out⟩
          case measure => simp [intOf]; omega
    · have hje : j = L := by omega
      have HR := Lib.hid (HNO.out (by have := HN.out; rwa [hje] at this))
      clear hje hb
      go_wp2
      go_ret
      exact ⟨ret_bool HR.out.symm, below_then HB1.out HB.out⟩
end Go.Proofs.Ytcjhgefkbnbmnaa

/- The document's Vars. -/
namespace Go.Proofs.Ytcjhgefkbnbmnaa
open Go.RowKit LM
set_option linter.unusedVariables false

theorem int_new (w : World) (n : Int) : ∀ j u, [Value.int .i64 n][j]? = some u → (w.alloc (.cells #[.int .i64 n] 3)).cell? ((⟨w.heap.size, 0, none⟩ : Addr).add j) = some u := cells_new w [.int .i64 n] 3
theorem int_one (n : Int) : ∀ u ∈ [Value.int .i64 n], u.oneCell' = true := by simp [Value.oneCell']
theorem vars_bd {a b : Nat} (h : a ≤ b) (hb : b + 1 ≤ 1099511627776) : a + 1 ≤ maxLen ∧ (a + 1) * 8 ≤ 140737488355328 := ⟨by unfold maxLen; omega, by omega⟩
/-- What is kept while the parts are gone through. -/
structure RvI (w3 : World) (L : List (Hd × Fo)) (j : Nat) (v : Value) (wr : World) : Prop where
  own : wr.ownsRow w3.heap.size 3 1 v (varsL (L.take j)).length ((varsL (L.take j)).map (Value.int .i64))
  below : Below w3.heap.size w3 wr
theorem RvI.skip {w3 : World} {L : List (Hd × Fo)} {j : Nat} {v : Value} {wr w' : World} (h : RvI w3 L j v wr) (hj : j < L.length) (hn : ¬ (isVarB (L[j]).1.op = true ∧ (L[j]).1.n ∉ varsL (L.take j))) (hb : Below wr.heap.size wr w') : RvI w3 L (j + 1) v w' := by
  have e : varsL (L.take (j + 1)) = varsL (L.take j) := by rw [List.take_succ_eq_append_getElem hj, varsL_snoc, if_neg hn]
  exact ⟨by rw [e]; exact own_grown h.own hb, h.below.trans (hb.mono h.below.size)⟩
theorem RvI.go {w3 : World} {L : List (Hd × Fo)} {j : Nat} {v v' : Value} {wr w' : World} {o : Obj} (h : RvI w3 L j v wr) (hj : j < L.length) (hn : isVarB (L[j]).1.op = true ∧ (L[j]).1.n ∉ varsL (L.take j))
    (hown : w'.ownsRow w3.heap.size 3 1 v' ((varsL (L.take j)).length + 1) ((varsL (L.take j)).map (Value.int .i64) ++ [.int .i64 (L[j]).1.n])) (hg : (wr.alloc o).grownBy w' v.ownBlock) : RvI w3 L (j + 1) v' w' := by
  have e : varsL (L.take (j + 1)) = varsL (L.take j) ++ [(L[j]).1.n] := by rw [List.take_succ_eq_append_getElem hj, varsL_snoc, if_pos hn]
  refine ⟨by rw [e, List.length_append, List.map_append]; exact hown, ((h.below.alloc h.below.size o).grown hg (by have := h.below.size; simp; omega) (fun k e => (h.own.lt k e).1))⟩

set_option maxRecDepth 100000 in
set_option maxHeartbeats 2000000 in
theorem refVars_any (h : Hd) (k : Fo) (q : Option Addr) (cap : Nat) (w : World) (s : Nat) (hsh : sh1 h k s = true) (h12 : s = 1 ∨ s = 2) (hsz : 1 + k.size ≤ 1099511627776) (hsl : SlF w q cap k) :
    Calls Try.prog 20 #[.agg #[.int .u8 h.op, .string h.name, .int .i64 h.n, .slice q k.len cap]] w (IntsPost w (varsT (canT h k))) := by
  obtain ⟨i0, hi, hz0, hz1, hz2⟩ := info_parts info3
  have HC := Lib.hid (refCanon_any (k.size + 1) h k q cap (w.alloc (.cells #[.int .u8 h.op, .string h.name, .int .i64 h.n, .slice q k.len cap] 25)) s (by omega) hsz hsh h12 (hsl.below (below_box _ _)))
  have hz := canT_size h k
  have HP := Lib.hid fun q1 c1 w' (hs1 : SlF w' q1 c1 (canT h k).2) => Parts_pv (canT h k).1 (canT h k).2 q1 c1 w' (by omega) hs1
  have HL : Hid ((flatL [((canT h k).1, (canT h k).2)]).length ≤ 1099511627776) := Lib.hid (by rw [length_one]; omega)
  unfold varsT
  clear hsl hsz hsh h12 hz
  generalize canT h k = T at *
  generalize flatL [(T.1, T.2)] = L at *
  rw [List.length_map] at HP
  have HFIN : Hid (∀ v wr w3, RvI w3 L L.length v wr → Below w.heap.size w w3 → IntsPost w (varsL L) (.returned v) wr) := Lib.hid fun v wr w3 hr hb => by
    have := hr.own
    rw [List.take_length] at this
    exact ⟨v, rfl, own_base this hb.size, hb.trans (hr.below.mono hb.size)⟩
  have HVL := Lib.hid fun j => Nat.le_trans (varsL_len (L.take j)) (by rw [List.length_take]; exact Nat.min_le_left _ _ : (L.take j).length ≤ j)
  generalize k.len = Lk at *
  generalize hLd : L.length = N at *
  have HLL := Lib.hid hLd
  have hLm := HL.out
  clear hLd
  go_enter Try.func20, Try.ntmps20
  go_wp2_with fail
  refine HC.out.mono ?_
  rintro e w2 ⟨q1, c1, rfl, hd, hb2⟩
  have HB2 := Lib.hid (below_then (below_box _ _) hb2)
  have HP2 := Lib.hid (HP.out q1 c1 w2 hd.here)
  clear hd hb2
  go_wp2_with fail
  refine HP2.out.mono ?_
  rintro e w3 ⟨a, c, rfl, hpv, hb3⟩
  have HB3 := Lib.hid (below_then HB2.out hb3)
  have HPV := Lib.hid hpv
  have hlc := hpv.lc
  rw [List.length_map, HLL.out] at hlc
  clear hb3 hpv
  have HST : Hid (RvI w3 L 0 (.slice none 0 0) w3) := Lib.hid ⟨World.ownsRow_nil _ _ _ _, Below.refl _ _⟩
  go_wp2
  go_loopw [3, 5] (fun v i wr => ∃ j : Nat, i = .int .i64 j ∧ j ≤ N ∧ RvI w3 L j v wr) (fun _ i _ => N - (intOf i).toNat)
  case atStart => exact ⟨0, rfl, Nat.zero_le _, HST.out⟩
  case round =>
    obtain ⟨j, rfl, hjl, hR⟩ := hrel
    have HR := Lib.hid hR
    by_cases hj : j < N
    · have hj2 : j < L.length := by rw [HLL.out]; exact hj
      have hj3 : j < (L.map Prod.fst).length := by rw [List.length_map]; exact hj2
      obtain ⟨b, rfl, hlt, hc⟩ := (HPV.out.below hR.below).at_ (by omega)
      obtain ⟨x0, x1⟩ := hc j hj3
      rw [List.getElem_map] at x0 x1
      obtain ⟨a2, c2, rfl, his⟩ := own_is hR.own
      have hvl := HVL.out j
      have HIN := Lib.hid (In_any (varsL (L.take j)) a2 c2 (L[j]).1.n wr his (by omega))
      have HSK := Lib.hid fun hn => hR.skip hj2 hn (Below.refl _ _)
      have HGO := Lib.hid fun (v' : Value) (w' : World) (o : Obj) hn hown hg => hR.go (v' := v') (w' := w') (o := o) hj2 hn hown hg
      have HO := Lib.hid hR.own
      have hb3 : w3.heap.size ≤ wr.heap.size := hR.below.size
      have HT : Hid (isVarB (L[j]).1.op = (decide ((L[j]).1.op = 7) || decide ((L[j]).1.op = 10))) := Lib.hid rfl
      clear hc his hR
      generalize (L[j]).1.op = o at *
      generalize (L[j]).1.n = n at *
      by_cases hv : o = 7 ∨ o = 10
      · have hvb : isVarB o = true := by rw [HT.out]; simpa using hv
        have hcase : (o == 7) = true ∨ ((o == 7) = false ∧ (o == 10) = true) := by
          by_cases h7 : o = 7
          · left; simpa using h7
          · right; exact ⟨by simpa using h7, by simpa using hv.resolve_left h7⟩
        clear hv
        by_cases hin : n ∈ varsL (L.take j)
        · have hdt : decide (n ∈ varsL (L.take j)) = true := by simpa using hin
          rw [hdt] at HIN
          have HG := Lib.hid (HSK.out (by simp [hin]))
          clear hin hdt hvb
          generalize (varsL (L.take j)).length = M at *
          rcases hcase with t1 | ⟨t1, t2⟩
          all_goals
            go_wp2_with (refine HIN.out.mono ?_; rintro e w' ⟨rfl, rfl⟩)
            go_roundw
            case rel => exact ⟨j + 1, by go_num, by omega, HG.out⟩
            case measure => simp [intOf]; omega
        · have hdt : decide (n ∈ varsL (L.take j)) = false := by simpa using hin
          rw [hdt] at HIN
          have HGO2 := Lib.hid fun (v' : Value) (w' : World) (o : Obj) hown hg => HGO.out v' w' o ⟨hvb, hin⟩ hown hg
          clear hin hdt hvb HGO
          generalize varsL (L.take j) = l at *
          generalize hMd : l.length = M at *
          have HBD := Lib.hid (vars_bd hvl (by omega))
          clear hMd
          rcases hcase with t1 | ⟨t1, t2⟩
          all_goals
            go_wp2_with (first
              | (go_at_call 65; refine HIN.out.mono ?_; rintro e w' ⟨rfl, rfl⟩)
              | (at_builtin; refine wpList_append_own _ rfl (.tmp 39) (.tmp 45) 29 rfl w3.heap.size 3 i0 (.int .i64 0) 1 8 Try.underlying29 hi hz0 hz1 hz2 rfl (by decide) _ _ _ rfl (HO.out.alloc _) ⟨wr.heap.size, 0, none⟩ 1 1 [.int .i64 n] rfl rfl (int_new _ _) (int_one _) HBD.out.1 HBD.out.2 (by simp; omega) ?_; intro v' w5 hown5 hg5 _; have HG := Lib.hid (HGO2.out v' w5 _ hown5 hg5); obtain ⟨a5, c5, rfl⟩ := own_value hown5; clear hown5 hg5))
            go_roundw
            case rel => exact ⟨j + 1, by go_num, by omega, HG.out⟩
            case measure => simp [intOf]; omega
      · have h7 : (o == 7) = false := by simpa using fun e => hv (.inl e)
        have h10 : (o == 10) = false := by simpa using fun e => hv (.inr e)
        have hvb : isVarB o = false := by rw [HT.out]; simpa using hv
        have HG := Lib.hid (HSK.out (by rw [hvb]; simp))
        clear hv hvb
        generalize (varsL (L.take j)).length = M at *
        go_wp2
        go_roundw
        case rel => exact ⟨j + 1, by go_num, by omega, HG.out⟩
        case measure => simp [intOf]; omega
    · have hje : j = N := by omega
      have HE := Lib.hid (HFIN.out _ _ w3 (by rw [hje, ← HLL.out] at hR; exact HLL.out ▸ hR) HB3.out)
      clear hje hR
      go_wp2
      go_ret
      exact HE.out
end Go.Proofs.Ytcjhgefkbnbmnaa

/- The document's Numbered and Number. -/
namespace Go.Proofs.Ytcjhgefkbnbmnaa
open Go.RowKit LM
set_option linter.unusedVariables false

def numG (l : List Int) : Hd → Fo → Hd × Fo := fun h k => (numH l h, numF l k)
end Go.Proofs.Ytcjhgefkbnbmnaa

/- The document's Number. -/
namespace Go.Proofs.Ytcjhgefkbnbmnaa
open Go.RowKit LM
set_option linter.unusedVariables false

end Go.Proofs.Ytcjhgefkbnbmnaa

/- A canonical form has the Ops of what it is of: plain. -/
namespace Go.Proofs.Ytcjhgefkbnbmnaa
open Go.RowKit LM
set_option linter.unusedVariables false

def opsF (f : Fo) : List Int := f.flat.map fun x => x.1.op
def opsT (t : Hd × Fo) : List Int := t.1.op :: opsF t.2
theorem opsF_cons (h : Hd) (k r : Fo) : opsF (.cons h k r) = opsT (h, k) ++ opsF r := by simp [opsF, opsT, Fo.flat]
theorem opsF_nil : opsF .nil = [] := rfl
def fldOps (x : ByteArray × Hd × Fo) : List Int := 11 :: opsT (x.2.1, x.2.2)
theorem rowT_ops (t : Hd × Fo) : ∀ l : List (ByteArray × Hd × Fo), opsT (rowT t l) = l.flatMap fldOps ++ opsT t
  | [] => rfl
  | (nm, h, k) :: r => by
    have ih := rowT_ops t r
    rw [List.flatMap_cons, List.append_assoc, ← ih]
    show (11 : Int) :: opsF _ = _
    simp only [rowT]
    rw [opsF_cons, opsF_cons, opsF_nil]
    simp [fldOps]
theorem rowF_ops : ∀ (k : Fo) (h : Hd), sh1 h k 2 = true → opsT (h, k) = (rowF h k).1.flatMap fldOps ++ opsT (rowF h k).2
  | .nil, h, _ => rfl
  | .cons h0 k0 .nil, h, _ => rfl
  | .cons h0 k0 (.cons h1 k1 r), h, hs => by
    by_cases hop : h.op = 11
    · rw [rowF, if_pos hop]
      obtain ⟨ks, h1', h2', h3', h4'⟩ := sh1_kids hs
      have e : ks = [1, 2] := by rw [hop] at h1'; exact (Option.some.inj h1').symm
      subst e
      rw [shapes_two, shapes_two] at h4'
      have hr := shapes_nil h4'.2.2
      subst hr
      have ih := rowF_ops k1 h1 h4'.2.1
      simp only
      rw [List.flatMap_cons, List.append_assoc, ← ih]
      show h.op :: opsF _ = _
      rw [opsF_cons, opsF_cons, opsF_nil, hop]
      simp [fldOps]
    · rw [rowF, if_neg hop]; rfl
theorem rowS_ops {h : Hd} {k : Fo} (hs : sh1 h k 2 = true) : (opsT (rowS h k)).Perm (opsT (h, k)) := by
  unfold rowS
  rw [rowT_ops, rowF_ops k h hs]
  exact ((srt_perm _).flatMap_right fldOps).append_right _
theorem topS_ops {h : Hd} {k : Fo} {ks : List Nat} (hk : kidsL h.op = some ks) (hs : k.shapes ks = true) : (opsF (topS h k)).Perm (opsF k) := by
  cases k with
  | nil => exact .refl _
  | cons h0 k0 r =>
    simp only [topS]
    split
    · next hop =>
      have e : ks = [2] := by
        rcases hop with h5 | h5 <;> · rw [h5] at hk; exact (Option.some.inj hk).symm
      subst e
      rw [shapes_two] at hs
      rw [opsF_cons, opsF_cons]
      exact (rowS_ops hs.1).append_right _
    · exact .refl _
theorem canL_ops : ∀ (n : Nat) (f : Fo) (ss : List Nat), f.size ≤ n → f.shapes ss = true → (opsF (canL f)).Perm (opsF f)
  | _, .nil, ss, _, hs => by rw [canL_nil]
  | 0, .cons h k r, ss, hn, hs => by simp [Fo.size] at hn
  | n + 1, .cons h k r, ss, hn, hs => by
    cases ss with
    | nil => simp [Fo.shapes] at hs
    | cons s ss =>
      rw [shapes_two] at hs
      obtain ⟨ks, h1, h2, h3, h4⟩ := sh1_kids hs.1
      simp only [Fo.size] at hn
      have := topS_size h k
      rw [canL_cons, opsF_cons, opsF_cons]
      have e1 := (canL_ops n _ ks (by omega) (topS_sh h1 h4)).trans (topS_ops h1 h4)
      exact (e1.cons h.op).append (canL_ops n r ss (by omega) hs.2)
theorem canT_ops {h : Hd} {k : Fo} {s : Nat} (hs : sh1 h k s = true) (h12 : s = 1 ∨ s = 2) : (opsT (canT h k)).Perm (opsT (h, k)) := by
  have h0 : sh1 (rowS h k).1 (rowS h k).2 s = true ∧ (opsT (rowS h k)).Perm (opsT (h, k)) := by
    rcases h12 with rfl | rfl
    · obtain ⟨_, _, s1, _, _⟩ := sh1_kids hs
      rw [rowS_type (type_op s1)]; exact ⟨hs, .refl _⟩
    · exact ⟨rowS_sh hs, rowS_ops hs⟩
  obtain ⟨ks, h1, h2, h3, h4⟩ := sh1_kids h0.1
  have e := (canL_ops _ _ ks (Nat.le_refl _) (topS_sh h1 h4)).trans (topS_ops h1 h4)
  exact (e.cons _).trans h0.2
theorem hasB_ops (x y : Int) (t : Hd × Fo) : hasB x y (flatL [(t.1, t.2)]) = (opsT t).any (twoB x y) := by
  rw [flatL_one]
  simp [hasB, opsT, opsF, Fo.flat, List.any_map, Function.comp_def]
theorem perm_any {α : Type} {p : α → Bool} {a b : List α} (h : a.Perm b) : a.any p = b.any p := by
  rw [Bool.eq_iff_iff]
  simp only [List.any_eq_true]
  exact ⟨fun ⟨x, h1, h2⟩ => ⟨x, h.mem_iff.1 h1, h2⟩, fun ⟨x, h1, h2⟩ => ⟨x, h.mem_iff.2 h1, h2⟩⟩
theorem hasB_can {h : Hd} {k : Fo} {s : Nat} (hs : sh1 h k s = true) (h12 : s = 1 ∨ s = 2) (x y : Int) : hasB x y (flatL [((canT h k).1, (canT h k).2)]) = hasB x y (flatL [(h, k)]) := by
  rw [hasB_ops x y (canT h k), hasB_ops x y (h, k)]
  exact perm_any (canT_ops hs h12)
theorem varsL_none (l : List (Hd × Fo)) : hasB 7 10 l = false ↔ (varsL l).length = 0 := by
  constructor
  · intro h
    have key : ∀ l : List (Hd × Fo), (∀ x ∈ l, isVarB x.1.op = false) → varsL l = [] := by
      intro l
      refine snoc_ind (P := fun l => (∀ x ∈ l, isVarB x.1.op = false) → varsL l = []) (fun _ => rfl) (fun m q ih hx => ?_) l
      rw [varsL_snoc, if_neg (by rw [hx q (by simp)]; simp)]
      exact ih (fun x hm => hx x (by simp [hm]))
    rw [key l (fun x hx => ?_)]; rfl
    have := List.any_eq_false.1 h x hx
    unfold isVarB; unfold twoB at this
    simpa using this
  · intro h
    have h0 : varsL l = [] := List.length_eq_zero_iff.1 h
    rw [Bool.eq_false_iff]
    intro hc
    obtain ⟨x, hx, hv⟩ := List.any_eq_true.1 hc
    have := varsL_mem l x hx hv
    rw [h0] at this
    cases this
/-- Is what is right closed? -/
theorem closed_vars {h : Hd} {k : Fo} {s : Nat} (hs : sh1 h k s = true) (h12 : s = 1 ∨ s = 2) : (!hasB 7 10 (flatL [(h, k)])) = decide ((varsT (canT h k)).length = 0) := by
  rw [← hasB_can hs h12]
  unfold varsT
  rw [Bool.eq_iff_iff, decide_eq_true_eq, ← varsL_none]
  simp
end Go.Proofs.Ytcjhgefkbnbmnaa
