import Derived.Test.YtipfbppkahfnmaaDoorLxN
import Derived.Test.YtipfbppkahfnmaaDoorLxW
import Derived.Lib.AppendStr
import Derived.Deep.RegionLaw
import Derived.Deep.CutRange
import Derived.Outline
import Derived.IntWalk
import Derived.Deep.QuietTactic
import Derived.BigQuiet
namespace Go.Proofs.YtipfbppkahfnmaaDoor
open Go.RowKit RM LM
set_option linter.unusedVariables false

def bet8 : List (List UInt8) := [[], [32], [10], [35, 120, 10], [9, 35, 32, 195, 169, 32, 35, 10, 13]]
theorem bet8_strs (w : World) : Strs (w.alloc (.cells (bet8.map strV).toArray 9)) (some ⟨w.heap.size, 0, none⟩) 5 bet8 := slV_alloc w 9 (size := 1) (n := 5) (xs := bet8.map strV) (by omega) rfl

/-- append of a part that is there to a slice of the call's own, as a step of a region that draws. -/
theorem step_append_own {P : Program} {ops : Array Oper} {o : Oper} {a : Act} {w : World} {K : Act → World → Prop} {Q : Exit → Act → World → Prop} {E : Prop}
    (hg : o.guard = none) (s x : Operand) (t : TypeId) (hop : o.op = Op.call { callee := Callee.builtin Builtin.append, args := #[s, x], argTypes := #[t, t] })
    (base : Nat) (e : TypeId) (i : TypeInfo) (z : Value) (size bytes : Nat) (h1 : P.underlying t = some (.slice e)) (h2 : P.info? e = some i) (h3 : i.zero = some z) (h4 : i.size = size) (h5 : i.bytes = bytes) (h6 : z.cells.size = size) (h7 : 0 < size)
    (v : Value) (n : Nat) (xs : List Value) (hs : a.eval s = v) (hown : w.ownsRow base e size v n xs)
    (ad : Addr) (m c : Nat) (news : List Value) (hx : a.eval x = .slice (some ad) m c) (hn : news.length = m * size) (hc : ∀ j u, news[j]? = some u → w.cell? (ad.add j) = some u) (h1c : ∀ u ∈ news, u.oneCell' = true)
    (b1 : n + m ≤ maxLen) (b2 : (n + m) * bytes ≤ 140737488355328) (hb : base ≤ w.heap.size)
    (hK : ∀ v' w', w'.ownsRow base e size v' (n + m) (xs ++ news) → w.grownBy w' v.ownBlock → K (a.put o.dst v') w') :
    if Region.wanted o (yielded ops a.tmps) = true then Oper.wp P o a w K Q else E := by
  have hw : Region.wanted o (yielded ops a.tmps) = true := by simp [Region.wanted, hg]
  rw [if_pos hw]
  obtain ⟨v', w', hrun, r1, r2, _⟩ := run_append_own (P := P) w base t o.type e i z size bytes h1 h2 h3 h4 h5 h6 h7 v n xs hown ad m c news hn hc h1c b1 b2 hb
  unfold Oper.wp
  simp [execOp, hop, resolve, invoke, builtin, hs, hx, hrun, Result.andThen]
  exact hK v' w' r1 r2

theorem infoB : (Tryd.prog.info? 5).map (fun i => (i.zero, i.size, i.bytes)) = some (some (.int .u8 0), 1, 1) := by kernel_rfl
def betS (k : Nat) : ByteArray := ⟨(bet8.getD k []).toArray⟩
theorem betS_cells : ∀ k, k < 5 → Lib.strCells (betS k) = (between.getD k []).map (Value.int .u8) := by
  intro k hk
  match k, hk with
  | 0, _ | 1, _ | 2, _ | 3, _ | 4, _ => rfl
theorem betS_size : ∀ k, k < 5 → (betS k).size = (between.getD k []).length := by
  intro k hk
  match k, hk with
  | 0, _ | 1, _ | 2, _ | 3, _ | 4, _ => rfl
theorem betS_at {w : World} {B k : Nat} (h : Strs w (some ⟨B, 0, none⟩) 5 bet8) (hk : k < 5) : w.cell? ⟨B, k, none⟩ = some (.string (betS k)) := by
  obtain ⟨b, off, e, _, h2⟩ := h.at_ (k := k) hk
  cases e
  rw [Nat.zero_add] at h2
  rw [h2]
  match k, hk with
  | 0, _ | 1, _ | 2, _ | 3, _ | 4, _ => rfl
theorem own_app {w : World} {B T n m k : Nat} {v : Value} {acc : List Int} {s : ByteArray} {g : List Int} (h : w.ownsRow B T 1 v (n + m) (acc.map (Value.int .u8) ++ Lib.strCells s)) (e : Lib.strCells s = g.map (Value.int .u8)) (hk : k = n + m) :
    w.ownsRow B T 1 v k ((acc ++ g).map (Value.int .u8)) := by
  rw [List.map_append, ← e, hk]; exact h

theorem below_dr {B : Nat} {w w1 : World} (h : Below B w w1) : Below B w w1.drew := ⟨h.os, h.tape, h.output, h.size, h.block⟩
theorem ints_one (l : List Int) : ∀ u ∈ l.map (Value.int .u8), u.oneCell' = true := by
  intro u hu
  obtain ⟨x, _, rfl⟩ := List.mem_map.1 hu
  rfl
theorem slice_len {l : List Int} {x y : Nat} (h1 : x ≤ y) (h2 : y ≤ l.length) : (((l.drop x).take (y - x)).map (Value.int .u8)).length = (y - x) * 1 := by
  simp; omega
theorem slice_cells {w : World} {b off : Nat} {l : List Int} (h : ∀ i, i < l.length → w.cell? ⟨b, off + i, none⟩ = some (.int .u8 (l.getD i 0))) {x y : Nat} (h1 : x ≤ y) (h2 : y ≤ l.length) :
    ∀ j u, (((l.drop x).take (y - x)).map (Value.int .u8))[j]? = some u → w.cell? ((⟨b, off + x, none⟩ : Addr).add j) = some u := by
  intro j u hj
  obtain ⟨hj1, rfl⟩ := List.getElem?_eq_some_iff.1 hj
  simp only [List.length_map, List.length_take, List.length_drop] at hj1
  rw [plain_at, Nat.add_assoc, h _ (by omega)]
  simp [List.getD_eq_getElem?_getD, show x + j < l.length by omega]
theorem own_bd {n m k x y : Nat} (h1 : n ≤ 65536) (h2 : k ≤ 2000) (h3 : m ≤ 9) (h4 : y ≤ k) : n + m + (y - x) ≤ maxLen := by unfold maxLen; omega
theorem own_bd2 {n m k x y : Nat} (h1 : n ≤ 65536) (h2 : k ≤ 2000) (h3 : m ≤ 9) (h4 : y ≤ k) : (n + m + (y - x)) * 1 ≤ 140737488355328 := by omega

theorem own_seg {w : World} {B T n m : Nat} {v : Value} {acc g : List Int} (h : w.ownsRow B T 1 v (n + m) (acc.map (Value.int .u8) ++ g.map (Value.int .u8))) (hg : (g.map (Value.int .u8)).length = m * 1) :
    w.ownsRow B T 1 v (acc ++ g).length ((acc ++ g).map (Value.int .u8)) := by
  have h1 := h.1
  simp only [List.length_append, List.length_map] at h1 hg
  rw [List.map_append, List.length_append, show acc.length + g.length = n + m by omega]
  exact h

theorem segs_mem {L : List Int} {bt : Nat → List Int} : ∀ (ts : List Tok) (j : Nat) (x : Int), x ∈ segs L bt j ts → x ∈ L ∨ ∃ k, x ∈ bt k
  | [], _, x, h => by cases h
  | [_], _, x, h => by cases h
  | t :: u :: r, j, x, h => by
    have h' : x ∈ bt j ++ ((L.drop t.at_.toNat).take (u.at_.toNat - t.at_.toNat) ++ segs L bt (j + 1) (u :: r)) := h
    rcases List.mem_append.1 h' with h | h
    · exact .inr ⟨j, h⟩
    · rcases List.mem_append.1 h with h | h
      · exact .inl (List.mem_of_mem_drop (List.mem_of_mem_take h))
      · exact segs_mem (u :: r) (j + 1) x h
theorem btw_bytes (z : List Int) (j : Nat) : ∀ x ∈ btw z j, 0 ≤ x ∧ x ≤ 255 := by
  have hb : ∀ g ∈ between, ∀ x ∈ g, 0 ≤ x ∧ x ≤ 255 := by decide
  unfold btw
  split
  · by_cases h : (z.getD j 0 % 5).toNat < between.length
    · rw [List.getD_eq_getElem?_getD, List.getElem?_eq_getElem h]
      exact hb _ (List.getElem_mem h)
    · rw [List.getD_eq_getElem?_getD, List.getElem?_eq_none (by omega)]
      intro x hx; cases hx
  · intro x hx; cases hx
theorem byt_segs {l z : List Int} (h : Byt l) (ts : List Tok) : Byt (segs l (btw z) 0 ts) := by
  intro i hi
  rw [List.getD_eq_getElem?_getD, List.getElem?_eq_getElem hi]
  rcases segs_mem ts 0 _ (List.getElem_mem hi) with h1 | ⟨k, h1⟩
  · obtain ⟨j, hj, e⟩ := List.getElem_of_mem h1
    have := h j hj
    rw [List.getD_eq_getElem?_getD, List.getElem?_eq_getElem hj, e] at this
    exact this
  · exact btw_bytes z k _ h1

set_option maxRecDepth 100000 in
set_option maxHeartbeats 4000000 in
/-- THE LAW LexisBlanks. -/
theorem law_blanks (a : Option Addr) (cap : Nat) (l : List Int) (a' : Option Addr) (cap' : Nat) (z : List Int) (w : World) (h : Sl .u8 w a cap l) (hb : Byt l) (h' : Sl .u8 w a' cap' z) (hb' : Byt z) (hv : EV w) :
    Calls Tryd.prog 6 #[.slice a l.length cap, .slice a' z.length cap'] w fun e w' => e = .returned (.bool true) ∧ Below w.heap.size w w' := by
  have hcap := h.le
  have hmax := h.mx
  have hcap' := h'.le
  have hmax' := h'.mx
  have HS := Lib.hid h
  have HZ := Lib.hid h'
  have HB := Lib.hid hb
  have HBZ := Lib.hid hb'
  have HV := Lib.hid hv
  clear h h' hb hb' hv
  by_cases hL : l.length ≤ 2000
  · by_cases hL' : z.length ≤ 2000
    · obtain ⟨r, hr⟩ : ∃ r, toksV l = r := ⟨_, rfl⟩
      have HR := Lib.hid hr
      have hcd := toks_codes l
      rw [hr] at hcd
      clear hr
      obtain ⟨ts, x, c⟩ := r
      have hc0 : 0 ≤ c := by simp only [] at hcd; omega
      have hc7 : c ≤ 7 := by simp only [] at hcd; omega
      clear hcd
      go_enter Tryd.func6, Tryd.ntmps6
      go_wp2_with (go_at_call 7; refine (alive_any _ HV.out).mono ?_; rintro e w1 ⟨rfl, hb1⟩)
      refine (Tokens_at _ _ _ _ _ (HS.out.below hb1) HB.out (HV.out.below hb1) HR.out).mono ?_
      rintro e w2 ⟨a2, c2, rfl, ht2, hb2⟩
      have HB2 := Lib.hid (hb1.trans (hb2.mono hb1.size))
      have HT2 := Lib.hid ht2
      have hcap2 := ht2.le
      have hmax2 := ht2.mx
      clear ht2 hb1 hb2
      by_cases hc : c = 0
      · subst hc
        have hbl := blanks (z := z) hL HR.out
        obtain ⟨hlx, hseg, ts', hts', hsame⟩ := hbl
        have hpl := lexes_places hlx
        have h0 : 0 < ts.length := List.length_pos_iff.2 hpl.1
        have hlen := hpl.2.1
        have HLX := Lib.hid hlx
        have HR2 := Lib.hid hts'
        have HSM := Lib.hid hsame
        clear hlx hts' hsame hpl HR
        have hts0 : ((ts.length : Int) == 0) = false := by rw [beq_eq_false_iff_ne]; omega
        go_wp2_with fail
        clear hts0
        have hx3 := bet8_strs w2
        have hb3 : Below w2.heap.size w2 (w2.alloc (.cells (bet8.map strV).toArray 9)) := (Below.refl _ _).alloc (Nat.le_refl _) _
        have ht3 := HT2.out.below hb3
        have hs3 := HS.out.below (HB2.out.trans (hb3.mono HB2.out.size))
        have hz3 := HZ.out.below (HB2.out.trans (hb3.mono HB2.out.size))
        have hb03 := HB2.out.trans (hb3.mono HB2.out.size)
        have hB : w2.heap.size < (w2.alloc (.cells (bet8.map strV).toArray 9)).heap.size := by simp
        have hw3 : (w2.alloc (.cells #[.string ⟨#[]⟩, .string ⟨#[32]⟩, .string ⟨#[10]⟩, .string ⟨#[35, 120, 10]⟩, .string ⟨#[9, 35, 32, 195, 169, 32, 35, 10, 13]⟩] 9)) = w2.alloc (.cells (bet8.map strV).toArray 9) := rfl
        rw [hw3]
        clear hw3
        generalize w2.alloc (.cells (bet8.map strV).toArray 9) = w3 at *
        have HX3 := Lib.hid hx3
        have HT3 := Lib.hid ht3
        have HS3 := Lib.hid hs3
        have HZ3 := Lib.hid hz3
        have HB03 := Lib.hid hb03
        clear hx3 ht3 hs3 hz3 hb03 hb3 HT2 HB2
        generalize w2.heap.size = B at *
        go_loopw [9, 10] (fun v i wr => ∃ (j : Nat) (acc : List Int), j + 1 ≤ ts.length ∧ i = .int .i64 j ∧ acc.length ≤ 65536 ∧ Hid (acc ++ segs l (btw z) j (ts.drop j) = segs l (btw z) 0 ts) ∧ Hid (wr.ownsRow w3.heap.size 5 1 v acc.length (acc.map (Value.int .u8))) ∧ Hid (Below w3.heap.size w3 wr)) (fun _ i _ => ts.length - (intOf i).toNat)
        case atStart => exact ⟨0, [], by omega, rfl, by simp, rfl, World.ownsRow_nil _ _ _ _, Below.refl _ _⟩
        case round =>
          obtain ⟨j, acc, hj, rfl, hacc, HSG, HOW, HBW⟩ := hrel
          by_cases hjl : j + 1 < ts.length
          · obtain ⟨x0, y0, hx, hy, hxy, hyl⟩ := places_at HLX.out hjl
            have htw := HT3.out.below HBW.out
            obtain ⟨b, off, rfl, hb, t0, t1, t2, t3⟩ := htw.at_ (k := j) (by omega)
            obtain ⟨b', off', e', _, s0, s1, s2, s3⟩ := htw.at_ (k := j + 1) hjl
            cases e'
            rw [hx] at t3
            rw [hy] at s3
            have HXX := Lib.hid hx
            have HYY := Lib.hid hy
            clear htw hx hy t0 t1 t2 s0 s1 s2
            have hji : (j : Int) < (ts.length : Int) - 1 := by omega
            have hj0 : (0 : Int) ≤ j := by omega
            have hj1 : (j : Int) < ts.length := by omega
            have hj2 : (0 : Int) ≤ (j : Int) + 1 := by omega
            have hj3 : (j : Int) + 1 < ts.length := by omega
            have hj4 : ((j : Int) + 1).toNat = j + 1 := by omega
            have hj5 : IntKind.i64.wrap ((j : Int) + 1) = (j : Int) + 1 := IntWalk.i64_in _ (by omega)
            have hx0 : decide ((x0 : Int) < 0) = false := by simp
            have hxy0 : decide (y0 < x0) = false := by simp; omega
            have hyl0 : decide (l.length < y0) = false := by simp; omega
            go_wp2_with fail
            go_quiet (fail)
            clear hj2 hj3 hj4 hj5 hx0 hxy0 hyl0
            have HX4 := Lib.hid (HX3.out.below (below_dN HBW.out nq))
            have HZ4 := Lib.hid (HZ3.out.below (below_dN HBW.out nq))
            have hBs : w3.heap.size ≤ wr.heap.size := HBW.out.size
            obtain ⟨wo, hwo⟩ : ∃ wo : World, wo = wr.drewN nq := ⟨_, rfl⟩
            have t3' : wo.cell? ⟨b, off + j * 4 + 3, none⟩ = some (.int .i64 x0) := by rw [hwo]; exact t3
            have s3' : wo.cell? ⟨b, off + (j + 1) * 4 + 3, none⟩ = some (.int .i64 y0) := by rw [hwo]; exact s3
            have HOWo : Hid (wo.ownsRow w3.heap.size 5 1 u9 acc.length (acc.map (Value.int .u8))) := by rw [hwo]; exact HOW
            have HBWo : Hid (Below w3.heap.size w3 wo) := by rw [hwo]; exact below_dN HBW.out _
            have HX5 : Hid (Strs wo (some ⟨B, 0, none⟩) 5 bet8) := by rw [hwo]; exact HX4
            have HZ5 : Hid (Sl .u8 wo a' cap' z) := by rw [hwo]; exact HZ4
            have hbo : b < wo.heap.size := by rw [hwo]; exact hb
            have hBs' : w3.heap.size ≤ wo.heap.size := by rw [hwo]; exact hBs
            rw [← hwo]
            clear hwo t3 s3 HOW HBW HX4 HZ4 hb hBs
            obtain ⟨i0, hi, hz0, hz1, hz2⟩ := info_parts infoB
            go_upto_if 81 with (fail)
            go_cut [9] from 40 to 107 (fun v wc => Hid (wc.ownsRow w3.heap.size 5 1 v (acc.length + (btw z j).length) ((acc ++ btw z j).map (Value.int .u8))) ∧ Hid (Below w3.heap.size w3 wc))
            case first =>
              by_cases hjz : j < z.length
              · obtain ⟨bz, oz, rfl, hbz, hcz⟩ := HZ5.out.rd.resolve_left (by intro e; rw [e] at hjz; simp at hjz)
                have hqb := HBZ.out j hjz
                have hbt := btw_in hjz
                have hcj := hcz j hjz
                clear hcz
                generalize hq : z.getD j 0 = q at *
                clear hq
                obtain ⟨k, hk⟩ : ∃ k : Nat, q % 5 = k := ⟨(q % 5).toNat, by omega⟩
                have hk5 : k < 5 := by omega
                have hk5' : (k : Int) < 5 := by omega
                rw [hk, Int.toNat_natCast] at hbt
                have HQT := Lib.hid hbt
                clear hbt
                have hcb := betS_at HX5.out hk5
                have hjz' : (j : Int) < z.length := by omega
                go_wp2_with (at_builtin; refine Lib.wpList_append_own_string _ rfl (.tmp 82) (.tmp 91) 22 9 rfl w3.heap.size 5 i0 Tryd.underlying22 Tryd.underlying9 hi hz0 hz1 hz2 _ _ _ rfl HOWo.out (betS k) rfl ?c1 ?c2 hBs' ?_)
                case c1 => unfold maxLen; rw [betS_size k hk5]; have := (btw_good z j).2; rw [HQT.out] at this; omega
                case c2 => rw [betS_size k hk5]; have := (btw_good z j).2; rw [HQT.out] at this; omega
                intro v' w4 hown4 hgrow4 _
                have HOW4 := Lib.hid (own_app hown4 (betS_cells k hk5) rfl)
                have HBW4 := Lib.hid (HBWo.out.grown hgrow4 hBs' (fun k hk => (HOWo.out.lt k hk).1))
                clear hown4 hgrow4
                go_wp2_with fail
                go_meet
                case rel =>
                  refine ⟨?_, HBW4⟩
                  have h := HOW4.out
                  rw [betS_size k hk5] at h
                  rw [HQT.out]
                  exact h
              · have hb0 := btw_out hjz
                have hjz' : ¬ (j : Int) < z.length := by omega
                have HB0 := Lib.hid hb0
                clear hb0
                go_wp2_with fail
                go_meet
                case rel =>
                  rw [HB0.out]
                  simp only [List.append_nil, List.length_nil, Nat.add_zero]
                  exact ⟨HOWo, HBWo⟩
            case rest =>
              obtain ⟨HOWc, HBWc⟩ := hcut
              have hT := HT3.out.below HBWc.out
              have HSc := Lib.hid (HS3.out.below HBWc.out)
              obtain ⟨_, _, e1, _, _, _, _, q3⟩ := hT.at_ (k := j) (by omega)
              obtain ⟨_, _, e2, _, _, _, _, r3⟩ := hT.at_ (k := j + 1) hjl
              cases e1
              cases e2
              rw [HXX.out] at q3
              rw [HYY.out] at r3
              have hBc : w3.heap.size ≤ wc.heap.size := HBWc.out.size
              clear t3' s3' HOWo HBWo HX5 HZ5 hT hBs'
              obtain ⟨bl, ol, rfl, hbl, hcl⟩ := HSc.out.rd.resolve_left (by rintro rfl; simp at hyl; omega)
              have HCL := Lib.hid hcl
              clear hcl
              have hj2 : (0 : Int) ≤ (j : Int) + 1 := by omega
              have hj3 : (j : Int) + 1 < ts.length := by omega
              have hj4 : ((j : Int) + 1).toNat = j + 1 := by omega
              have hj5 : IntKind.i64.wrap ((j : Int) + 1) = (j : Int) + 1 := IntWalk.i64_in _ (by omega)
              have hcx : ¬ cap = x0 := by omega
              have hyc : y0 ≤ cap := by omega
              have hxy' : x0 ≤ y0 := by omega
              have HNW := Lib.hid (slice_cells (w := wc) (off := ol) HCL.out hxy' hyl)
              obtain ⟨i0, hi, hz0, hz1, hz2⟩ := info_parts infoB
              go_wp2_with fail
              go_region_law ((refine step_append_own rfl (.tmp 93) (.tmp 106) 22 rfl w3.heap.size 5 i0 _ 1 1 Tryd.underlying22 hi hz0 hz1 hz2 rfl (by decide) _ _ _ rfl (World.ownsRow.drew HOWc.out) ⟨bl, ol + x0, none⟩ (y0 - x0) (cap - x0) (((l.drop x0).take (y0 - x0)).map (Value.int .u8)) rfl (slice_len hxy' hyl) HNW.out (ints_one _) (own_bd hacc hL (btw_good z j).2 hyl) (own_bd2 hacc hL (btw_good z j).2 hyl) hBc ?_; intro v5 w5 hown5 hgrow5; have hgrow6 : wc.drew.grownBy w5 u9.ownBlock := hgrow5; clear hgrow5))
              all_goals
                have HOW5 := Lib.hid (own_seg hown5 (slice_len hxy' hyl))
                have HB5 := Lib.hid ((below_dr HBWc.out).grown hgrow6 hBc (fun k hk => (HOWc.out.lt k hk).1))
                clear hown5 hgrow6
                go_wp2_with fail
                go_roundw
                case rel =>
                  refine ⟨j + 1, acc ++ btw z j ++ (l.drop x0).take (y0 - x0), by omega, by go_num, ?_, ?_, HOW5, HB5⟩
                  · have := congrArg List.length HSG.out
                    rw [segs_at hjl HXX.out HYY.out] at this
                    simp only [List.length_append] at this ⊢
                    omega
                  · have := HSG.out
                    rw [segs_at hjl HXX.out HYY.out] at this
                    refine Lib.hid ?_
                    rw [← this]
                    simp only [List.append_assoc]
                case measure => simp [intOf]; omega
          · have hjn : (ts.length : Int) - 1 ≤ j := by omega
            have hacc2 : acc = segs l (btw z) 0 ts := by have := HSG.out; rw [segs_end _ _ _ hjl, List.append_nil] at this; exact this
            obtain ⟨a3, c3, rfl, hs3⟩ := sl_of_owns HOW.out
            have HBA : Hid (Byt acc) := by rw [hacc2]; exact byt_segs HB.out ts
            have HR3 : Hid (toksV acc = (ts', 0, 0)) := by rw [hacc2]; exact HR2.out
            have HV3 := Lib.hid (HV.out.below (HB03.out.trans (HBW.out.mono HB03.out.size)))
            have HA3 := Lib.hid hs3
            have hac := hs3.le
            have hac2 := hs3.mx
            have hsl := same_len HSM.out
            have hne : ((ts'.length : Int) != (ts.length : Int)) = false := by rw [hsl]; simp
            have HSL := Lib.hid hsl
            clear hacc2 hs3 HR2 HSG hsl
            go_wp2_with fail
            refine (Tokens_at _ _ _ _ _ HA3.out HBA.out HV3.out HR3.out).mono ?_
            rintro e w6 ⟨a6, c6, rfl, ht6, hb6⟩
            have HB6 := Lib.hid (HB03.out.trans ((HBW.out.trans (hb6.mono HBW.out.size)).mono HB03.out.size))
            have HT6 := Lib.hid ht6
            have HT7 := Lib.hid (HT3.out.below (HBW.out.trans (hb6.mono HBW.out.size)))
            have hcap6 := ht6.le
            have hmax6 := ht6.mx
            clear ht6 hb6
            go_wp2_with fail
            clear hne
            go_loopw [14] (fun i w1 => ∃ k : Nat, k ≤ ts.length ∧ i = .int .i64 k ∧ ∃ n, w1 = w6.drewN n) (fun i _ => ts.length - (intOf i).toNat)
            case atStart => exact ⟨0, by omega, rfl, 0, rfl⟩
            case round =>
              obtain ⟨k, hk, rfl, n, rfl⟩ := hrel
              by_cases hlt : k < ts.length
              · have hlt' : k < ts'.length := by have := HSL.out; omega
                obtain ⟨b, off, rfl, hin, c0, c1, c2, _⟩ := HT7.out.at_ hlt
                obtain ⟨b', off', rfl, hin', d0, d1, d2, _⟩ := HT6.out.at_ hlt'
                obtain ⟨e1, e2, e3⟩ := same_at HSM.out hlt hlt'
                rw [← e1] at d0
                rw [← e2] at d1
                rw [← e3] at d2
                clear e1 e2 e3
                generalize (ts[k]).kind = tk at *
                generalize (ts[k]).text = tt at *
                generalize (ts[k]).n = tn at *
                have hl1 : (k : Int) < ts.length := by omega
                have hl2 : (k : Int) < ts'.length := by omega
                have hl3 : (0 : Int) ≤ k := by omega
                have q1 : (tk != tk) = false := by simp
                have q2 : (tt.toList != tt.toList) = false := by simp
                have q3 : (tn != tn) = false := by simp
                go_wp2_with fail
                go_quiet (fail)
                go_wp2_with fail
                go_roundw
                case rel => exact ⟨k + 1, by omega, by go_num, _, rfl⟩
                case measure => simp [intOf]; omega
              · go_wp2_with fail
                go_ret
                exact ⟨rfl, below_dN HB6.out _⟩
      · have hck : (c == 0) = false := by simpa using hc
        go_wp2_with fail
        go_ret
        exact ⟨rfl, HB2.out⟩
    · have hLi : 2000 < (z.length : Int) := by omega
      have hLi2 : (l.length : Int) ≤ 2000 := by omega
      go_enter Tryd.func6, Tryd.ntmps6
      go_wp2_with (go_at_call 7; refine (alive_any _ HV.out).mono ?_; rintro e w1 ⟨rfl, hb1⟩)
      go_ret
      exact ⟨rfl, hb1⟩
  · have hLi : 2000 < (l.length : Int) := by omega
    go_enter Tryd.func6, Tryd.ntmps6
    go_wp2_with (go_at_call 7; refine (alive_any _ HV.out).mono ?_; rintro e w1 ⟨rfl, hb1⟩)
    go_ret
    exact ⟨rfl, hb1⟩
end Go.Proofs.YtipfbppkahfnmaaDoor
