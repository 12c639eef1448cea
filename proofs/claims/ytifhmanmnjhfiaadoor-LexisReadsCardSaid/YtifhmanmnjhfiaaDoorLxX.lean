import Derived.Test.YtifhmanmnjhfiaaDoorLxU
import Derived.Test.YtifhmanmnjhfiaaDoorLxL
import Derived.Deep.RegionWith
import Derived.Deep.CutRange
import Derived.Deep.RegionHeld3
import Derived.Deep.Light
import Derived.Deep.LoopGhost
namespace Go.Proofs.YtifhmanmnjhfiaaDoor
open Go.RowKit RM LM
set_option linter.unusedVariables false

/-- A slice of texts. -/
def Texts (w : World) (a : Option Addr) (cap : Nat) (ss : List ByteArray) : Prop := SlV w 1 a ss.length cap (ss.map Value.string)
theorem Texts.below {w w' : World} {a : Option Addr} {cap : Nat} {ss : List ByteArray} (h : Texts w a cap ss) (hb : Below w.heap.size w w') : Texts w' a cap ss := SlV.below h hb
theorem Texts.at_ {w : World} {a : Option Addr} {cap k : Nat} {ss : List ByteArray} (h : Texts w a cap ss) (hk : k < ss.length) :
    ∃ b off, a = some ⟨b, off, none⟩ ∧ b < w.heap.size ∧ w.cell? ⟨b, off + k, none⟩ = some (.string ss[k]) := by
  rcases h.rd with h0 | ⟨b, off, h1, h2, h3⟩
  · have := congrArg List.length h0
    simp only [List.length_map, List.length_nil] at this
    omega
  · exact ⟨b, off, h1, h2, h3 k _ (by rw [List.getElem?_map, List.getElem?_eq_getElem hk]; rfl)⟩

/-- append of tokens, nil or not, to a slice of the call's own. -/
theorem wpList_append_toks {P : Program} {w : World} {ops : Array Oper} {rest : List Oper} {o : Oper} {a : Act} {Q : Exit → Act → World → Prop} (hgd : o.guard = none) (s x : Operand) (t : TypeId)
    (ho : o.op = .call { callee := .builtin .append, args := #[s, x], argTypes := #[t, t] })
    (base : Nat) (e : TypeId) (i : TypeInfo) (z : Value) (bytes : Nat) (ht : P.underlying t = some (.slice e)) (hi : P.info? e = some i) (hz : i.zero = some z)
    (hsize : i.size = 4) (hby : i.bytes = bytes) (hzs : z.cells.size = 4)
    (v : Value) (n : Nat) (xs : List Value) (hs : a.eval s = v) (hown : w.ownsRow base e 4 v n xs)
    (ad : Option Addr) (m c : Nat) (ts : List Tok) (hx : a.eval x = .slice ad m c) (hl : ts.length = m) (hsl : Toks w ad c ts)
    (h63 : n + m ≤ maxLen) (hbytes : (n + m) * bytes ≤ 140737488355328) (hbase : base ≤ w.heap.size)
    (h : ∀ v' w', w'.ownsRow base e 4 v' (n + m) (xs ++ tokCells ts) → w.grownBy w' v.ownBlock → wpList P ops Q rest (a.put o.dst v') w') : wpList P ops Q (o :: rest) a w := by
  subst hl
  cases ad with
  | none =>
    obtain rfl := hsl.nil rfl
    have hl : ts = [] := List.length_eq_zero_iff.1 (by have := hsl.le; omega)
    subst hl
    refine wpList_append_own_none hgd s x t ho base e i 4 ht hi v n xs hs hown hx (h v w (by simpa [tokCells] using hown) ?_)
    exact ⟨rfl, rfl, rfl, Nat.le_refl _, fun _ _ _ => rfl⟩
  | some ad =>
    exact wpList_append_own w hgd s x t ho base e i z 4 bytes ht hi hz hsize hby hzs (by omega) v n xs hs hown ad ts.length c (tokCells ts) hx (tokCells_len ts) (toks_cells hsl) (tokCells_one' ts) h63 hbytes hbase (fun v' w' h1 h2 _ => h v' w' h1 h2)

/-- Block g is just the cells of the token t. -/
def TokBlk (w : World) (g : Nat) (t : Tok) : Prop := w.heap[g]? = some (.cells #[.int .u8 t.kind, .string t.text, .int .i64 t.n, .int .i64 t.at_] 37 (0, 0))
theorem TokBlk.cells {w : World} {g : Nat} {t : Tok} (h : TokBlk w g t) : g < w.heap.size ∧ w.cell? ⟨g, 0, none⟩ = some (.int .u8 t.kind) ∧ w.cell? ⟨g, 1, none⟩ = some (.string t.text) ∧ w.cell? ⟨g, 2, none⟩ = some (.int .i64 t.n) ∧ w.cell? ⟨g, 3, none⟩ = some (.int .i64 t.at_) := by
  refine ⟨?_, cell_blk h 0, cell_blk h 1, cell_blk h 2, cell_blk h 3⟩
  rcases Nat.lt_or_ge g w.heap.size with hlt | hge
  · exact hlt
  · unfold TokBlk at h; rw [Array.getElem?_eq_none hge] at h; cases h
theorem TokBlk.below {w w' : World} {g : Nat} {t : Tok} (h : TokBlk w g t) (hb : Below w.heap.size w w') : TokBlk w' g t := by
  have := h.cells.1
  unfold TokBlk at h ⊢
  rw [hb.block g this]; exact h
theorem tokBlk_new (w : World) (t : Tok) : TokBlk (w.alloc (.cells #[.int .u8 t.kind, .string t.text, .int .i64 t.n, .int .i64 t.at_] 37)) w.heap.size t := by
  show (w.heap.push _)[w.heap.size]? = _
  simp

theorem now_keep {w w' : World} {N bt o : Nat} {v0 v1 v2 v3 u : Value} (hb : Below w.heap.size w w') (hN : N < w.heap.size) (n0 : w.cell? ⟨N, 0, none⟩ = some v0) (n1 : w.cell? ⟨N, 1, none⟩ = some v1) (n2 : w.cell? ⟨N, 2, none⟩ = some v2) (n3 : w.cell? ⟨N, 3, none⟩ = some v3)
    (ht : bt < w.heap.size) (hc : w.cell? ⟨bt, o, none⟩ = some u) :
    Below w.heap.size w w' ∧ w'.cell? ⟨N, 0, none⟩ = some v0 ∧ w'.cell? ⟨N, 1, none⟩ = some v1 ∧ w'.cell? ⟨N, 2, none⟩ = some v2 ∧ w'.cell? ⟨N, 3, none⟩ = some v3 ∧ w'.cell? ⟨bt, o, none⟩ = some u :=
  ⟨hb, (hb.cell (p := ⟨N, 0, none⟩) hN).trans n0, (hb.cell (p := ⟨N, 1, none⟩) hN).trans n1, (hb.cell (p := ⟨N, 2, none⟩) hN).trans n2, (hb.cell (p := ⟨N, 3, none⟩) hN).trans n3, (hb.cell (p := ⟨bt, o, none⟩) ht).trans hc⟩

theorem peek_from {w w1 : World} {r : Nat} {ts : List Tok} {k : Nat} {t : Tok} (h : Rd w r ts k) (hb : Below w.heap.size w w1) (ht : peekT ts k = t) :
    Calls Tryd.prog 14 #[.pointer (some ⟨r, 0, none⟩)] w1 fun e w' => e = .returned (.agg #[.int .u8 t.kind, .string t.text, .int .i64 t.n, .int .i64 t.at_]) ∧ Below w.heap.size w w' :=
  (Peek_at r ts k t w1 (h.below hb) ht).mono fun e w' h => ⟨h.1, hb.trans (h.2.mono hb.size)⟩
theorem is_from {w w1 : World} {r : Nat} {ts : List Tok} {k : Nat} {s : ByteArray} {v : Bool} (h : Rd w r ts k) (hb : Below w.heap.size w w1) (hv : isB (peekT ts k) s = v) :
    Calls Tryd.prog 15 #[.pointer (some ⟨r, 0, none⟩), .string s] w1 fun e w' => e = .returned (.bool v) ∧ Below w.heap.size w w' :=
  (Is_bool_tok r ts k s v w1 (h.below hb) hv).mono fun e w' h => ⟨h.1, hb.trans (h.2.mono hb.size)⟩

theorem Rd.le {w : World} {r : Nat} {ts : List Tok} {k : Nat} (h : Rd w r ts k) : k ≤ ts.length := by
  obtain ⟨_, _, _, _, h3, _⟩ := h
  exact h3
theorem take_from {w w1 : World} {r : Nat} {ts : List Tok} {k : Nat} {t : Tok} (h : Rd w r ts k) (hb : Below w.heap.size w w1) (ht : peekT ts k = t) :
    Calls Tryd.prog 16 #[.pointer (some ⟨r, 0, none⟩)] w1 fun e w' => e = .returned (.agg #[.int .u8 t.kind, .string t.text, .int .i64 t.n, .int .i64 t.at_]) ∧ Rd w' r ts (min (k + 1) ts.length) ∧ w.grownBy w' (some r) := by
  subst ht
  by_cases hk : k < ts.length
  · refine (Take_in r ts k w1 (h.below hb) hk).mono fun e w' h' => ⟨h'.1, ?_, (gr_below hb).trans h'.2.2⟩
    rw [Nat.min_eq_left hk]
    exact h'.2.1
  · refine (Take_end r ts k w1 (h.below hb) hk).mono fun e w' h' => ⟨h'.1, ?_, (gr_below hb).trans (gr_below h'.2)⟩
    have := h.le
    rw [Nat.min_eq_right (by omega)]
    obtain rfl : k = ts.length := by omega
    exact (h.below hb).below h'.2
theorem skip_from {w w1 : World} {r : Nat} {ts : List Tok} {k : Nat} {s : ByteArray} {v : Bool} (h : Rd w r ts k) (hb : Below w.heap.size w w1) (hv : isB (peekT ts k) s = v) :
    Calls Tryd.prog 17 #[.pointer (some ⟨r, 0, none⟩), .string s] w1 fun e w' => e = .returned (.bool v) ∧ Rd w' r ts (k + cond v 1 0) ∧ w.grownBy w' (some r) := by
  cases v with
  | true => exact (Skip_yes r ts k s w1 (h.below hb) hv).mono fun e w' h' => ⟨h'.1, h'.2.1, (gr_below hb).trans h'.2.2⟩
  | false => exact (Skip_no r ts k s w1 (h.below hb) hv).mono fun e w' h' => ⟨h'.1, (h.below hb).below h'.2, (gr_below hb).trans (gr_below h'.2)⟩
theorem now_grown {w w' : World} {N r : Nat} {v0 v1 v2 v3 : Value} (hb : w.grownBy w' (some r)) (hN : N < w.heap.size) (hr : r ≠ N) (n0 : w.cell? ⟨N, 0, none⟩ = some v0) (n1 : w.cell? ⟨N, 1, none⟩ = some v1) (n2 : w.cell? ⟨N, 2, none⟩ = some v2) (n3 : w.cell? ⟨N, 3, none⟩ = some v3) :
    w.grownBy w' (some r) ∧ w'.cell? ⟨N, 0, none⟩ = some v0 ∧ w'.cell? ⟨N, 1, none⟩ = some v1 ∧ w'.cell? ⟨N, 2, none⟩ = some v2 ∧ w'.cell? ⟨N, 3, none⟩ = some v3 := by
  have h := hb.block N hN (by intro e; injection e with e; exact hr e.symm)
  refine ⟨hb, ?_, ?_, ?_, ?_⟩
  · rw [World.cell?_of_block (w := w) (a := ⟨N, 0, none⟩) h]; exact n0
  · rw [World.cell?_of_block (w := w) (a := ⟨N, 1, none⟩) h]; exact n1
  · rw [World.cell?_of_block (w := w) (a := ⟨N, 2, none⟩) h]; exact n2
  · rw [World.cell?_of_block (w := w) (a := ⟨N, 3, none⟩) h]; exact n3

set_option maxRecDepth 100000 in
set_option maxHeartbeats 4000000 in
/-- THE LAW LexisReads. -/
theorem law_reads (a : Option Addr) (cap : Nat) (ts : List Tok) (a' : Option Addr) (cap' : Nat) (ss : List ByteArray) (w : World) (h : Toks w a cap ts) (h' : Texts w a' cap' ss) (hv : EV w) :
    Calls Tryd.prog 5 #[.slice a ts.length cap, .slice a' ss.length cap'] w fun e w' => e = .returned (.bool true) ∧ Below w.heap.size w w' := by
  have hcap := h.le
  have hmax := h.mx
  have hcap' := h'.le
  have hmax' := h'.mx
  have HT := Lib.hid h
  have HX := Lib.hid h'
  have HV := Lib.hid hv
  clear h h' hv
  by_cases hL : ts.length ≤ 200
  · by_cases hL' : ss.length ≤ 200
    · obtain ⟨i0, hi, hz0, hz1, hz2⟩ := info_parts infoTok
      go_enter Tryd.func5, Tryd.ntmps5
      go_wp2_with fail
      refine (alive_any _ HV.out).mono ?_
      rintro e w1 ⟨rfl, hb1⟩
      have hown := owns_empty4 w1 37
      have hts := HT.out.below (hb1.alloc hb1.size (.cells #[] 37))
      go_wp2_with (at_builtin; refine wpList_append_toks rfl (.tmp 23) (.tmp 24) 24 rfl w1.heap.size 37 i0 _ 40 Tryd.underlying24 hi hz0 hz1 hz2 rfl _ _ _ rfl hown a ts.length cap ts rfl rfl hts ?c1 ?c2 ?c3 ?_)
      case c1 => unfold maxLen; omega
      case c2 => omega
      case c3 => simp
      intro v2 w2 hown2 hgrow2
      have hb12 : Below w1.heap.size w1 w2 := ((Below.refl _ _).alloc (Nat.le_refl _) _).grown hgrow2 (by simp) (fun k hk => (hown.lt k hk).1)
      have HB2 := Lib.hid (hb1.trans (hb12.mono hb1.size))
      have hw01 := hb1.size
      obtain ⟨ag, cg, rfl, hg2⟩ := slV_owns hown2
      have HO2 := Lib.hid hown2
      have HG2 := Lib.hid (show Toks w2 ag cg ts from hg2)
      have hcg := hg2.le
      have hmg := hg2.mx
      clear hown hgrow2 hb12 hb1 hown2 hg2 hts
      go_wp2_with fail
      refine (NewReader_any ag cg ts w2 HG2.out (by omega)).mono ?_
      rintro e w3 ⟨r, rfl, hr3, hb3, hr3', hk3⟩
      have HZ := Lib.hid (zg_start HO2.out hw01 HB2.out hb3 hr3 hk3)
      have hrw : w.heap.size ≤ r := Nat.le_trans HB2.out.size hr3'
      clear hr3 hb3 hr3' hk3
      go_wp2_with fail
      go_loopw [7] (fun i wr => ∃ k : Nat, k ≤ ts.length ∧ i = .int .i64 k ∧ Hid (Zg w wr r ts ag)) (fun i _ => ts.length - (intOf i).toNat)
      case atStart => exact ⟨0, by omega, rfl, HZ.out⟩
      case round =>
        obtain ⟨k, hk, rfl, hzg⟩ := hrel
        by_cases hkl : k < ts.length
        · obtain ⟨g, v0, v1, v2, v3, rfl, z0, z1, z2, z3, y0, y1, y2, y3⟩ := zg_cells hzg.out hkl
          have hst := zg_step (i := k * 4) (v0 := .int .u8 0) (v1 := .string ⟨#[]⟩) (v2 := .int .i64 0) (v3 := .int .i64 0) hzg.out (by omega)
          have HST := Lib.hid hst
          clear hst
          go_wp2_with fail
          go_roundw
          case rel => exact ⟨k + 1, by omega, by go_num, HST.out⟩
          case measure => simp [intOf]; omega
        · have hrd := hzg.out.1
          have HBW := Lib.hid hzg.out.2.1
          have HR := Lib.hid hrd
          clear hrd hzg HZ
          go_wp2_with fail
          obtain ⟨w4, rfl⟩ : ∃ w4 : World, w4 = wr := ⟨_, rfl⟩
          go_loopw [8, 9, 10, 11] (fun p i _ _ wr => ∃ (k j : Nat), k ≤ ts.length ∧ j ≤ ss.length ∧ p = .int .i64 k ∧ i = .int .i64 j ∧ Hid (Rd wr r ts k) ∧ Hid (Below w.heap.size w wr)) (fun _ i _ _ _ => ss.length - (intOf i).toNat)
          case atStart => exact ⟨0, 0, by omega, by omega, rfl, rfl, HR.out, HBW.out⟩
          case round =>
            clear hkl hk HR HBW
            obtain ⟨k, j, hk, hj, rfl, rfl, hrd, hbw⟩ := hrel
            by_cases hjl : j < ss.length
            · obtain ⟨bt, offt, rfl, hbt, hct⟩ := (HX.out.below hbw.out).at_ hjl
              obtain ⟨t, ht⟩ : ∃ t, peekT ts k = t := ⟨_, rfl⟩
              have HTW := Lib.hid (HT.out.below hbw.out)
              have hsz : w.heap.size ≤ wr.heap.size := hbw.out.size
              have hrlt : r < wr.heap.size := hrd.out.lt
              go_upto_if 48 with (fail)
              go_cut [10] from 38 to 112 (fun v wc => v = .pointer (some ⟨wr.heap.size, 0, none⟩) ∧ Hid (TokBlk wc wr.heap.size t) ∧ Hid (Below wr.heap.size wr wc))
              case first =>
                by_cases hkn : k < ts.length
                · obtain ⟨b, off, rfl, hb, t0, t1, t2, t3⟩ := HTW.out.at_ hkn
                  have hkt : ts[k] = t := by rw [← ht, peekT_in hkn]
                  rw [hkt] at t0 t1 t2 t3
                  clear ht hkt
                  obtain ⟨tk, tt, tn, ta⟩ := t
                  simp only [] at t0 t1 t2 t3
                  go_wp2_with fail
                  go_meet
                  case rel => exact ⟨rfl, tokBlk_new wr ⟨tk, tt, tn, ta⟩, (Below.refl _ _).alloc (Nat.le_refl _) _⟩
                · by_cases hn0 : 0 < ts.length
                  · obtain ⟨b, off, rfl, hb, t0, t1, t2, t3⟩ := HTW.out.at_ (k := ts.length - 1) (by omega)
                    have hkt := peekT_end hkn hn0
                    rw [ht] at hkt
                    generalize (ts[ts.length - 1]).at_ = ta at *
                    subst hkt
                    clear t0 t1 t2
                    have hsub2 : ((ts.length : Int) - 1).toNat = ts.length - 1 := by omega
                    generalize hm : ts.length - 1 = m at *
                    have hm1 : ts.length = m + 1 := by omega
                    have hsub3 : 0 ≤ (ts.length : Int) - 1 := by omega
                    have hsub4 : (ts.length : Int) - 1 < ts.length := by omega
                    clear ht
                    go_wp2_with fail
                    go_meet
                    case rel => exact ⟨rfl, tokBlk_new wr ⟨4, ⟨#[]⟩, 0, ta⟩, (Below.refl _ _).alloc (Nat.le_refl _) _⟩
                  · have hts : ts = [] := List.length_eq_zero_iff.1 (by omega)
                    have hkt : t = ⟨4, ⟨#[]⟩, 0, 0⟩ := by rw [← ht, hts]; rfl
                    have hl0 : ts.length = 0 := by omega
                    subst hkt
                    clear ht hts
                    go_wp2_with fail
                    go_meet
                    case rel => exact ⟨rfl, tokBlk_new wr ⟨4, ⟨#[]⟩, 0, 0⟩, (Below.refl _ _).alloc (Nat.le_refl _) _⟩
              case rest =>
                obtain ⟨rfl, hblk, hbc⟩ := hcut
                have HRD := Lib.hid (hrd.out.below hbc.out)
                have HBC := Lib.hid (hbw.out.trans (hbc.out.mono hbw.out.size))
                obtain ⟨hN, n0, n1, n2, n3⟩ := hblk.out.cells
                have hrc : r < wc.heap.size := HRD.out.lt
                have hct' : wc.cell? ⟨bt, offt + j, none⟩ = some (.string ss[j]) := by rw [hbc.out.cell (p := ⟨bt, offt + j, none⟩) hbt]; exact hct
                have hbt' : bt < wc.heap.size := Nat.lt_of_lt_of_le hbt hbc.out.size
                have HTC := Lib.hid (HTW.out.below hbc.out)
                generalize hs : ss[j] = s at *
                generalize wr.heap.size = N at *
                obtain ⟨tk, tt, tn, ta⟩ := t
                simp only [] at n0 n1 n2 n3
                have HP := Lib.hid (fun w1 hb => peek_from (w := wc) (w1 := w1) HRD.out hb ht)
                have HTK := Lib.hid ht
                have HJ := Lib.hid (fun w' (hb : Below wc.heap.size wc w') => now_keep (N := N) hb hN n0 n1 n2 n3 hbt' hct')
                have heq : ∀ W, (Op.equalIn 10000 37 (.agg #[.int .u8 tk, .string tt, .int .i64 tn, .int .i64 ta]) (.agg #[.int .u8 tk, .string tt, .int .i64 tn, .int .i64 ta])).run Tryd.prog W = .ok true W := fun W => by
                  rw [eqTok, decide_eq_true rfl]
                obtain ⟨b, hb⟩ : ∃ b, isB (peekT ts k) s = b := ⟨_, rfl⟩
                have hbe : ((tk == 3) && (tt.toList == s.toList)) = b := by rw [← hb, ht]; rfl
                have HB := Lib.hid hb
                have HIB := Lib.hid (fun w1 hb' => is_from (w := wc) (w1 := w1) (s := s) HRD.out hb' hb)
                clear hs ht hct hbt hbc hsz hblk hb
                obtain ⟨wb, rfl⟩ : ∃ wb : World, wb = wc := ⟨_, rfl⟩
                go_wp2_with fail
                go_cut [11] from 38 to 112 (fun v wd => v = .bool b ∧ ∃ nq, wd = wb.drewN nq)
                case first =>
                  by_cases h3 : (tk == 3) = true
                  · by_cases h4 : (tt.toList == s.toList) = true
                    · obtain rfl : true = b := by rw [← hbe, h3, h4]; rfl
                      clear hbe
                      go_quiet (fail)
                      go_wp2_with fail
                      go_meet
                      case rel => exact ⟨rfl, _, rfl⟩
                    · have h4' : (tt.toList == s.toList) = false := by simpa using h4
                      obtain rfl : false = b := by rw [← hbe, h3, h4']; rfl
                      clear hbe h4
                      go_quiet (fail)
                      go_wp2_with fail
                      go_meet
                      case rel => exact ⟨rfl, _, rfl⟩
                  · have h3' : (tk == 3) = false := by simpa using h3
                    obtain rfl : false = b := by rw [← hbe, h3']; rfl
                    clear hbe h3
                    go_quiet (fail)
                    go_wp2_with fail
                    go_meet
                    case rel => exact ⟨rfl, _, rfl⟩
                case rest =>
                  obtain ⟨rfl, nq, rfl⟩ := hcut
                  clear hbe
                  have hjp : (j : Int) % 2 = 1 ∨ (j : Int) % 2 = 0 := by omega
                  have hj63 : (j : Int) < 200 := by omega
                  rcases hjp with hjp | hjp
                  · cases b with
                    | true =>
                      go_wp2_with fail
                      go_region_held3 (fun w' => Below wb.heap.size wb w' ∧ w'.cell? ⟨N, 0, none⟩ = some (.int .u8 tk) ∧ w'.cell? ⟨N, 1, none⟩ = some (.string tt) ∧ w'.cell? ⟨N, 2, none⟩ = some (.int .i64 tn) ∧ w'.cell? ⟨N, 3, none⟩ = some (.int .i64 ta) ∧ w'.cell? ⟨bt, offt + j, none⟩ = some (.string s)) ((refine HJ.out _ ?_; (first | assumption | exact (below_dN (Below.refl _ _) _).drew | exact below_dN (Below.refl _ _) _ | exact Below.refl _ _ | (go_split_ands; assumption)))) (first | (go_at_call 14; refine (HP.out _ ?_).mono ?_; (first | assumption | exact (below_dN (Below.refl _ _) _).drew | exact below_dN (Below.refl _ _) _ | exact Below.refl _ _ | (go_split_ands; assumption)); rintro e wp ⟨rfl, hbp⟩) | (go_at_call 15; refine (HIB.out _ ?_).mono ?_; (first | assumption | exact (below_dN (Below.refl _ _) _).drew | exact below_dN (Below.refl _ _) _ | exact Below.refl _ _ | (go_split_ands; assumption)); rintro e wi ⟨rfl, hbi⟩))
                      rename_i hh
                      obtain ⟨HBI, i0', i1', i2', i3', i4'⟩ := hh
                      have HBI := Lib.hid HBI
                      have HRI := Lib.hid (HRD.out.below HBI.out)
                      have HWI := Lib.hid (HBC.out.trans (HBI.out.mono HBC.out.size))
                      have hNi : N < wi.heap.size := Nat.lt_of_lt_of_le hN HBI.out.size
                      clear hbp hbi
                      go_wp2_with fail
                      have HTA := Lib.hid (fun w1 hb => take_from (w := wi) (w1 := w1) HRI.out hb HTK.out)
                      have HJ2 := Lib.hid (fun w' (hb : wi.grownBy w' (some r)) => now_grown hb hNi (Nat.ne_of_lt hrlt) i0' i1' i2' i3')
                      go_region_held3 (fun w' => wi.grownBy w' (some r) ∧ w'.cell? ⟨N, 0, none⟩ = some (.int .u8 tk) ∧ w'.cell? ⟨N, 1, none⟩ = some (.string tt) ∧ w'.cell? ⟨N, 2, none⟩ = some (.int .i64 tn) ∧ w'.cell? ⟨N, 3, none⟩ = some (.int .i64 ta)) ((refine HJ2.out _ ?_; first | assumption | exact gr_below (by first | exact (below_dN (Below.refl _ _) _).drew | exact below_dN (Below.refl _ _) _ | exact Below.refl _ _) | (go_split_ands; assumption))) (first | (go_at_call 16; refine (HTA.out _ ?_).mono ?_; (first | assumption | exact (below_dN (Below.refl _ _) _).drew | exact below_dN (Below.refl _ _) _ | exact Below.refl _ _ | (go_split_ands; assumption)); rintro e wt ⟨rfl, hrt, hgt⟩))
                      rename_i hh
                      obtain ⟨hgt2, t0', t1', t2', t3'⟩ := hh
                      go_wp2_with fail
                      have HWT := Lib.hid (HWI.out.grown hgt HWI.out.size (fun m hm => by cases hm; exact hrw))
                      exact ⟨⟨min (k + 1) ts.length, j + 1, Nat.min_le_right _ _, hjl, congrArg (Value.int .i64) (by omega), congrArg (Value.int .i64) (by omega), hrt, HWT.out⟩, by simp [intOf]; omega⟩
                    | false =>
                      go_wp2_with fail
                      go_region_held3 (fun w' => Below wb.heap.size wb w' ∧ w'.cell? ⟨N, 0, none⟩ = some (.int .u8 tk) ∧ w'.cell? ⟨N, 1, none⟩ = some (.string tt) ∧ w'.cell? ⟨N, 2, none⟩ = some (.int .i64 tn) ∧ w'.cell? ⟨N, 3, none⟩ = some (.int .i64 ta) ∧ w'.cell? ⟨bt, offt + j, none⟩ = some (.string s)) ((refine HJ.out _ ?_; (first | assumption | exact (below_dN (Below.refl _ _) _).drew | exact below_dN (Below.refl _ _) _ | exact Below.refl _ _ | (go_split_ands; assumption)))) (first | (go_at_call 14; refine (HP.out _ ?_).mono ?_; (first | assumption | exact (below_dN (Below.refl _ _) _).drew | exact below_dN (Below.refl _ _) _ | exact Below.refl _ _ | (go_split_ands; assumption)); rintro e wp ⟨rfl, hbp⟩) | (go_at_call 15; refine (HIB.out _ ?_).mono ?_; (first | assumption | exact (below_dN (Below.refl _ _) _).drew | exact below_dN (Below.refl _ _) _ | exact Below.refl _ _ | (go_split_ands; assumption)); rintro e wi ⟨rfl, hbi⟩))
                      rename_i hh
                      obtain ⟨HBI, i0', i1', i2', i3', i4'⟩ := hh
                      have HBI := Lib.hid HBI
                      have HRI := Lib.hid (HRD.out.below HBI.out)
                      have HWI := Lib.hid (HBC.out.trans (HBI.out.mono HBC.out.size))
                      have hNi : N < wi.heap.size := Nat.lt_of_lt_of_le hN HBI.out.size
                      clear hbp hbi
                      go_wp2_with fail
                      have HTA := Lib.hid (fun w1 hb => take_from (w := wi) (w1 := w1) HRI.out hb HTK.out)
                      have HJ2 := Lib.hid (fun w' (hb : wi.grownBy w' (some r)) => now_grown hb hNi (Nat.ne_of_lt hrlt) i0' i1' i2' i3')
                      go_region_held3 (fun w' => wi.grownBy w' (some r) ∧ w'.cell? ⟨N, 0, none⟩ = some (.int .u8 tk) ∧ w'.cell? ⟨N, 1, none⟩ = some (.string tt) ∧ w'.cell? ⟨N, 2, none⟩ = some (.int .i64 tn) ∧ w'.cell? ⟨N, 3, none⟩ = some (.int .i64 ta)) ((refine HJ2.out _ ?_; first | assumption | exact gr_below (by first | exact (below_dN (Below.refl _ _) _).drew | exact below_dN (Below.refl _ _) _ | exact Below.refl _ _) | (go_split_ands; assumption))) (first | (go_at_call 16; refine (HTA.out _ ?_).mono ?_; (first | assumption | exact (below_dN (Below.refl _ _) _).drew | exact below_dN (Below.refl _ _) _ | exact Below.refl _ _ | (go_split_ands; assumption)); rintro e wt ⟨rfl, hrt, hgt⟩))
                      rename_i hh
                      obtain ⟨hgt2, t0', t1', t2', t3'⟩ := hh
                      go_wp2_with fail
                      have HWT := Lib.hid (HWI.out.grown hgt HWI.out.size (fun m hm => by cases hm; exact hrw))
                      exact ⟨⟨min (k + 1) ts.length, j + 1, Nat.min_le_right _ _, hjl, congrArg (Value.int .i64) (by omega), congrArg (Value.int .i64) (by omega), hrt, HWT.out⟩, by simp [intOf]; omega⟩
                  · cases b with
                    | true =>
                      go_wp2_with fail
                      go_region_held3 (fun w' => Below wb.heap.size wb w' ∧ w'.cell? ⟨N, 0, none⟩ = some (.int .u8 tk) ∧ w'.cell? ⟨N, 1, none⟩ = some (.string tt) ∧ w'.cell? ⟨N, 2, none⟩ = some (.int .i64 tn) ∧ w'.cell? ⟨N, 3, none⟩ = some (.int .i64 ta) ∧ w'.cell? ⟨bt, offt + j, none⟩ = some (.string s)) ((refine HJ.out _ ?_; (first | assumption | exact (below_dN (Below.refl _ _) _).drew | exact below_dN (Below.refl _ _) _ | exact Below.refl _ _ | (go_split_ands; assumption)))) (first | (go_at_call 14; refine (HP.out _ ?_).mono ?_; (first | assumption | exact (below_dN (Below.refl _ _) _).drew | exact below_dN (Below.refl _ _) _ | exact Below.refl _ _ | (go_split_ands; assumption)); rintro e wp ⟨rfl, hbp⟩) | (go_at_call 15; refine (HIB.out _ ?_).mono ?_; (first | assumption | exact (below_dN (Below.refl _ _) _).drew | exact below_dN (Below.refl _ _) _ | exact Below.refl _ _ | (go_split_ands; assumption)); rintro e wi ⟨rfl, hbi⟩))
                      rename_i hh
                      obtain ⟨HBI, i0', i1', i2', i3', i4'⟩ := hh
                      have HBI := Lib.hid HBI
                      have HRI := Lib.hid (HRD.out.below HBI.out)
                      have HWI := Lib.hid (HBC.out.trans (HBI.out.mono HBC.out.size))
                      have hNi : N < wi.heap.size := Nat.lt_of_lt_of_le hN HBI.out.size
                      clear hbp hbi
                      go_wp2_with fail
                      have HSK := Lib.hid (fun w1 hb => skip_from (w := wi) (w1 := w1) HRI.out hb HB.out)
                      go_wp2_with (go_at_call 17; refine (HSK.out _ ?_).mono ?_; (first | assumption | exact (below_dN (Below.refl _ _) _).drew | exact below_dN (Below.refl _ _) _ | exact Below.refl _ _ | (go_split_ands; assumption)); rintro e wt ⟨rfl, hrt, hgt⟩)
                      have HWT := Lib.hid (HWI.out.grown hgt HWI.out.size (fun m hm => by cases hm; exact hrw))
                      have hrt' : Rd wt r ts (k + 1) := hrt
                      exact ⟨⟨k + 1, j + 1, hrt'.le, hjl, congrArg (Value.int .i64) (by omega), congrArg (Value.int .i64) (by omega), hrt', HWT.out⟩, by simp [intOf]; omega⟩
                    | false =>
                      go_wp2_with fail
                      go_region_held3 (fun w' => Below wb.heap.size wb w' ∧ w'.cell? ⟨N, 0, none⟩ = some (.int .u8 tk) ∧ w'.cell? ⟨N, 1, none⟩ = some (.string tt) ∧ w'.cell? ⟨N, 2, none⟩ = some (.int .i64 tn) ∧ w'.cell? ⟨N, 3, none⟩ = some (.int .i64 ta) ∧ w'.cell? ⟨bt, offt + j, none⟩ = some (.string s)) ((refine HJ.out _ ?_; (first | assumption | exact (below_dN (Below.refl _ _) _).drew | exact below_dN (Below.refl _ _) _ | exact Below.refl _ _ | (go_split_ands; assumption)))) (first | (go_at_call 14; refine (HP.out _ ?_).mono ?_; (first | assumption | exact (below_dN (Below.refl _ _) _).drew | exact below_dN (Below.refl _ _) _ | exact Below.refl _ _ | (go_split_ands; assumption)); rintro e wp ⟨rfl, hbp⟩) | (go_at_call 15; refine (HIB.out _ ?_).mono ?_; (first | assumption | exact (below_dN (Below.refl _ _) _).drew | exact below_dN (Below.refl _ _) _ | exact Below.refl _ _ | (go_split_ands; assumption)); rintro e wi ⟨rfl, hbi⟩))
                      rename_i hh
                      obtain ⟨HBI, i0', i1', i2', i3', i4'⟩ := hh
                      have HBI := Lib.hid HBI
                      have HRI := Lib.hid (HRD.out.below HBI.out)
                      have HWI := Lib.hid (HBC.out.trans (HBI.out.mono HBC.out.size))
                      have hNi : N < wi.heap.size := Nat.lt_of_lt_of_le hN HBI.out.size
                      clear hbp hbi
                      go_wp2_with fail
                      have HSK := Lib.hid (fun w1 hb => skip_from (w := wi) (w1 := w1) HRI.out hb HB.out)
                      go_wp2_with (go_at_call 17; refine (HSK.out _ ?_).mono ?_; (first | assumption | exact (below_dN (Below.refl _ _) _).drew | exact below_dN (Below.refl _ _) _ | exact Below.refl _ _ | (go_split_ands; assumption)); rintro e wt ⟨rfl, hrt, hgt⟩)
                      have HWT := Lib.hid (HWI.out.grown hgt HWI.out.size (fun m hm => by cases hm; exact hrw))
                      have hrt' : Rd wt r ts (k + 0) := hrt
                      exact ⟨⟨k + 0, j + 1, hrt'.le, hjl, congrArg (Value.int .i64) (by omega), congrArg (Value.int .i64) (by omega), hrt', HWT.out⟩, by simp [intOf]; omega⟩
            · have hje : (j : Int) = ss.length := by omega
              have heq : ∀ W, (Op.equalIn 10000 37 (.agg #[.int .u8 4, .string ⟨#[]⟩, .int .i64 0, .int .i64 0]) (.agg #[.int .u8 4, .string ⟨#[]⟩, .int .i64 0, .int .i64 0])).run Tryd.prog W = .ok true W := fun W => by
                rw [eqTok, decide_eq_true rfl]
              clear hj
              go_wp2_with (first | (go_at_call 14; refine (Peek_nil _).mono ?_; rintro e wp ⟨rfl, hbp⟩) | (go_at_call 16; refine (Take_nil _).mono ?_; rintro e wt ⟨rfl, hbt⟩) | (go_at_call 15; refine (Is_nil _ _).mono ?_; rintro e wi ⟨rfl, hbi⟩) | (go_at_call 17; refine (Skip_nil _ _).mono ?_; rintro e ws ⟨rfl, hbs⟩))
              go_ret
              have b1 := hbw.out.trans (hbp.mono hbw.out.size)
              have b2 := b1.trans (hbt.mono b1.size)
              have b3 := b2.trans (hbi.mono b2.size)
              exact ⟨rfl, b3.trans (hbs.mono b3.size)⟩
    · have hLi : 200 < (ss.length : Int) := by omega
      have hLi2 : (ts.length : Int) ≤ 200 := by omega
      go_enter Tryd.func5, Tryd.ntmps5
      go_wp2_with fail
      refine (alive_any _ HV.out).mono ?_
      rintro e w1 ⟨rfl, hb1⟩
      go_wp2_with fail
      go_ret
      exact ⟨rfl, hb1⟩
  · have hLi : 200 < (ts.length : Int) := by omega
    go_enter Tryd.func5, Tryd.ntmps5
    go_wp2_with fail
    refine (alive_any _ HV.out).mono ?_
    rintro e w1 ⟨rfl, hb1⟩
    go_wp2_with fail
    go_ret
    exact ⟨rfl, hb1⟩
end Go.Proofs.YtifhmanmnjhfiaaDoor
