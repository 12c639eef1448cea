import Derived.Test.YtifhmanmnjhfiaaDoorLxS
import Derived.Maps.AppendAt
import Derived.WalkSpells
namespace Go.Proofs.YtifhmanmnjhfiaaDoor
open Go.RowKit RM LM
set_option linter.unusedVariables false

theorem Peek_at (r : Nat) (ts : List Tok) (k : Nat) (t : Tok) (w : World) (h : Rd w r ts k) (ht : peekT ts k = t) :
    Calls Tryd.prog 14 #[.pointer (some ⟨r, 0, none⟩)] w fun e w' => e = .returned (.agg #[.int .u8 t.kind, .string t.text, .int .i64 t.n, .int .i64 t.at_]) ∧ Below w.heap.size w w' := by
  subst ht
  exact Peek_any r ts k w h

/-- Is a token this sign? -/
def isB (t : Tok) (s : ByteArray) : Bool := (t.kind == 3) && (t.text.toList == s.toList)

set_option maxRecDepth 100000 in
theorem Is_tok (r : Nat) (ts : List Tok) (k : Nat) (s : ByteArray) (w : World) (h : Rd w r ts k) :
    Calls Tryd.prog 15 #[.pointer (some ⟨r, 0, none⟩), .string s] w fun e w' => e = .returned (.bool (isB (peekT ts k) s)) ∧ Below w.heap.size w w' := by
  obtain ⟨t, ht⟩ : ∃ t, peekT ts k = t := ⟨_, rfl⟩
  have HP := Lib.hid (Peek_at r ts k t w h ht)
  rw [ht]
  clear ht h
  obtain ⟨tk, tt, tn, ta⟩ := t
  have hi : isB ⟨tk, tt, tn, ta⟩ s = ((tk == 3) && (tt.toList == s.toList)) := rfl
  have HI := Lib.hid hi
  clear hi
  by_cases h3 : (tk == 3) = true
  · go_enter Tryd.func15, Tryd.ntmps15
    go_wp2_with (go_at_call 14; refine HP.out.mono ?_; rintro e w2 ⟨rfl, hb⟩)
    go_ret
    exact ⟨ret_bool (by rw [HI.out, h3]; rfl), hb.alloc hb.size _⟩
  · have h3' : (tk == 3) = false := by simpa using h3
    clear h3
    go_enter Tryd.func15, Tryd.ntmps15
    go_wp2_with (go_at_call 14; refine HP.out.mono ?_; rintro e w2 ⟨rfl, hb⟩)
    go_ret
    exact ⟨ret_bool (by rw [HI.out, h3']; rfl), hb.alloc hb.size _⟩

theorem Is_bool_tok (r : Nat) (ts : List Tok) (k : Nat) (s : ByteArray) (v : Bool) (w : World) (h : Rd w r ts k) (hv : isB (peekT ts k) s = v) :
    Calls Tryd.prog 15 #[.pointer (some ⟨r, 0, none⟩), .string s] w fun e w' => e = .returned (.bool v) ∧ Below w.heap.size w w' := by
  subst hv
  exact Is_tok r ts k s w h

theorem gr_below {w w' : World} {row : Option Nat} (h : Below w.heap.size w w') : w.grownBy w' row := ⟨h.os, h.tape, h.output, h.size, fun i hi _ => h.block i hi⟩
theorem gr_alloc {w0 w : World} {row : Option Nat} (h : w0.grownBy w row) (o : Obj) : w0.grownBy (w.alloc o) row :=
  ⟨h.os, h.tape, h.output, Nat.le_trans h.size (by simp), fun i hi hn => (Below.heap_alloc w o i (Nat.lt_of_lt_of_le hi h.size)).trans (h.block i hi hn)⟩
theorem gr_drewN {w0 w : World} {row : Option Nat} (h : w0.grownBy w row) (n : Nat) : w0.grownBy (w.drewN n) row := ⟨h.os, h.tape, h.output, h.size, h.block⟩
theorem gr_set {w0 w : World} {g : Nat} (h : w0.grownBy w (some g)) {p : Addr} (hp : p.block = g ∨ w0.heap.size ≤ p.block) (u : Value) : w0.grownBy (w.setCell p u) (some g) := by
  refine ⟨h.os, h.tape, h.output, by simpa [World.setCell] using h.size, fun i hi hn => ?_⟩
  refine (Below.heap_setCell w p u i ?_).trans (h.block i hi hn)
  intro e
  rcases hp with hp | hp
  · exact hn (by rw [e, hp])
  · omega
theorem gr_set4 {w0 w : World} {g b : Nat} (h : w0.grownBy w (some g)) (hb : w0.heap.size ≤ b) (v0 v1 v2 v3 : Value) :
    w0.grownBy ((((w.setCell ⟨b, 0, none⟩ v0).setCell ⟨b, 1, none⟩ v1).setCell ⟨b, 2, none⟩ v2).setCell ⟨b, 3, none⟩ v3) (some g) :=
  gr_set (gr_set (gr_set (gr_set h (.inr hb) _) (.inr hb) _) (.inr hb) _) (.inr hb) _
theorem far_set4 {w : World} {b i : Nat} (h : i ≠ b) (v0 v1 v2 v3 : Value) :
    ((((w.setCell ⟨b, 0, none⟩ v0).setCell ⟨b, 1, none⟩ v1).setCell ⟨b, 2, none⟩ v2).setCell ⟨b, 3, none⟩ v3).heap[i]? = w.heap[i]? := by
  rw [Below.heap_setCell _ _ _ _ h, Below.heap_setCell _ _ _ _ h, Below.heap_setCell _ _ _ _ h, Below.heap_setCell _ _ _ _ h]
theorem Toks.keep {w w' : World} {a : Option Addr} {cap : Nat} {ts : List Tok} (h : Toks w a cap ts) (hs : w.heap.size ≤ w'.heap.size) (hk : 0 < ts.length → ∀ b off, a = some ⟨b, off, none⟩ → b < w.heap.size → w'.heap[b]? = w.heap[b]?) : Toks w' a cap ts := by
  refine ⟨h.le, h.mx, h.len, ?_, h.nil⟩
  rcases h.rd with e | ⟨b, off, e, hb, hc⟩
  · exact .inl e
  · by_cases h0 : 0 < ts.length
    · refine .inr ⟨b, off, e, by omega, fun j u hu => ?_⟩
      rw [World.cell?_of_block (w := w) (a := ⟨b, off + j, none⟩) (hk h0 b off e hb)]
      exact hc j u hu
    · have : ts = [] := List.length_eq_zero_iff.1 (by omega)
      subst this
      exact .inl rfl
theorem rd_turn {w w' : World} {r : Nat} {ts : List Tok} {k k' : Nat} (h : Rd w r ts k) (hg : w.grownBy w' (some r))
    (hr : ∀ s, w.heap[r]? = some (.cells #[s, .int .i64 k] 53 (0, 0)) → w'.heap[r]? = some (.cells #[s, .int .i64 k'] 53 (0, 0))) (hk : k' ≤ ts.length) : Rd w' r ts k' := by
  obtain ⟨a, cap, h1, h2, h3, h4⟩ := h
  refine ⟨a, cap, hr _ h1, h2.keep hg.size fun h0 b off e hb => hg.block b hb ?_, hk, h4⟩
  intro e'
  exact h4 h0 b off e (by injection e')

/-- Only the block r has turned, and the reader there is at the k-th token. -/
def RdPost (r : Nat) (ts : List Tok) (k : Nat) (w w' : World) : Prop := Rd w' r ts k ∧ w.grownBy w' (some r)

theorem take_fin {w w2 : World} {r nq : Nat} {ts : List Tok} {k : Nat} {o : Obj} (h : Rd w r ts k) (hb : Below w.heap.size w w2) (hk : k < ts.length) (v0 v1 v2 v3 : Value) :
    RdPost r ts (k + 1) w ((((((((w2.alloc o).drewN nq).setCell ⟨r, 1, none⟩ (.int .i64 ((k : Int) + 1))).setCell ⟨w.heap.size, 0, none⟩ v0).setCell ⟨w.heap.size, 1, none⟩ v1).setCell ⟨w.heap.size, 2, none⟩ v2).setCell ⟨w.heap.size, 3, none⟩ v3)) := by
  have hlt := h.lt
  have hg := gr_set4 (gr_set (gr_drewN (gr_alloc (gr_below (row := some r) hb) o) nq) (p := ⟨r, 1, none⟩) (.inl rfl) (.int .i64 ((k : Int) + 1))) (Nat.le_refl _) v0 v1 v2 v3
  refine ⟨rd_turn h hg (fun s hs => ?_) hk, hg⟩
  rw [far_set4 (by omega)]
  have h2 : ((w2.alloc o).drewN nq).heap[r]? = some (.cells #[s, .int .i64 k] 53 (0, 0)) := by
    show (w2.alloc o).heap[r]? = _
    rw [Below.heap_alloc w2 o r (Nat.lt_of_lt_of_le hlt hb.size), hb.block r hlt]
    exact hs
  rw [Joins.block_setCell h2, Int.natCast_add]
  rfl

set_option maxRecDepth 100000 in
theorem Take_in (r : Nat) (ts : List Tok) (k : Nat) (w : World) (h : Rd w r ts k) (hk : k < ts.length) :
    Calls Tryd.prog 16 #[.pointer (some ⟨r, 0, none⟩)] w fun e w' => e = .returned (Tok.val (peekT ts k)) ∧ RdPost r ts (k + 1) w w' := by
  have hlt := h.lt
  have HR := Lib.hid h
  obtain ⟨t, ht⟩ : ∃ t, peekT ts k = t := ⟨_, rfl⟩
  have HP := Lib.hid (fun w h => Peek_at r ts k t w h ht)
  rw [ht]
  clear ht h
  obtain ⟨tk, tt, tn, ta⟩ := t
  go_enter Tryd.func16, Tryd.ntmps16
  go_wp2_with (go_at_call 14; refine (HP.out _ (HR.out.below ((Below.refl _ _).alloc (Nat.le_refl _) _))).mono ?_; rintro e w2 ⟨rfl, hb⟩)
  have hR2 := HR.out.below (w' := w2) (((Below.refl _ _).alloc (Nat.le_refl _) _).trans (hb.mono (by simp)))
  simp at hb
  obtain ⟨⟨hc0, hc1, hc2, hc3⟩, ⟨hf0, hf1, hf2, hf3⟩, hz, hbw⟩ := own_cells hb
  have HR2 := Lib.hid hR2
  have HBW := Lib.hid hbw
  obtain ⟨a, cap, g1, g2, g3, g4⟩ := hR2
  have c0 : w2.cell? ⟨r, 0, none⟩ = some (.slice a ts.length cap) := cell_blk g1 0
  have c1 : w2.cell? ⟨r, 1, none⟩ = some (.int .i64 k) := cell_blk g1 1
  have f1 : w2.frozen? ⟨r, 1, none⟩ = false := frozen_blk g1 1
  have hr2 : r < w2.heap.size := by omega
  have hne : r ≠ w.heap.size := by omega
  have hcap := g2.le
  have hmax := g2.mx
  have G1 := Lib.hid g1
  clear hb hbw g1 g2 g4
  go_quiet (fail)
  go_wp2
  exact bodyPost_ret (v := Tok.val ⟨tk, tt, tn, ta⟩) (by simp [results, Tok.val, tokV, Tryd.results16, go_sem, hc0, hc1, hc2, hc3, hz]) rfl ⟨rfl, take_fin HR.out HBW.out hk _ _ _ _⟩

set_option maxRecDepth 100000 in
theorem Take_end (r : Nat) (ts : List Tok) (k : Nat) (w : World) (h : Rd w r ts k) (hk : ¬ k < ts.length) :
    Calls Tryd.prog 16 #[.pointer (some ⟨r, 0, none⟩)] w fun e w' => e = .returned (Tok.val (peekT ts k)) ∧ Below w.heap.size w w' := by
  have hlt := h.lt
  have HR := Lib.hid h
  obtain ⟨t, ht⟩ : ∃ t, peekT ts k = t := ⟨_, rfl⟩
  have HP := Lib.hid (fun w h => Peek_at r ts k t w h ht)
  rw [ht]
  clear ht h
  obtain ⟨tk, tt, tn, ta⟩ := t
  go_enter Tryd.func16, Tryd.ntmps16
  go_wp2_with (go_at_call 14; refine (HP.out _ (HR.out.below ((Below.refl _ _).alloc (Nat.le_refl _) _))).mono ?_; rintro e w2 ⟨rfl, hb⟩)
  have hR2 := HR.out.below (w' := w2) (((Below.refl _ _).alloc (Nat.le_refl _) _).trans (hb.mono (by simp)))
  simp at hb
  obtain ⟨⟨hc0, hc1, hc2, hc3⟩, ⟨hf0, hf1, hf2, hf3⟩, hz, hbw⟩ := own_cells hb
  have HBW := Lib.hid hbw
  obtain ⟨a, cap, g1, g2, g3, g4⟩ := hR2
  have c0 : w2.cell? ⟨r, 0, none⟩ = some (.slice a ts.length cap) := cell_blk g1 0
  have c1 : w2.cell? ⟨r, 1, none⟩ = some (.int .i64 k) := cell_blk g1 1
  have hr2 : r < w2.heap.size := by omega
  have hcap := g2.le
  have hmax := g2.mx
  have hki : ¬ (k : Int) < ts.length := by omega
  have hkd : decide ((k : Int) < ts.length) = false := decide_eq_false hki
  have hkd2 : decide (k < ts.length) = false := decide_eq_false hk
  clear hb hbw g1 g2 g4
  go_quiet (fail)
  go_wp2
  exact bodyPost_ret (v := Tok.val ⟨tk, tt, tn, ta⟩) (by simp [results, Tok.val, tokV, Tryd.results16, go_sem, hc0, hc1, hc2, hc3, hz]) rfl ⟨rfl, below_set4 (below_dN (HBW.out.alloc (Nat.le_of_lt hz) _) _) _ _ _ _⟩

theorem isB_in {ts : List Tok} {k : Nat} {s : ByteArray} (h : isB (peekT ts k) s = true) : k < ts.length := by
  by_cases hk : k < ts.length
  · exact hk
  · unfold peekT at h
    rw [dif_neg hk] at h
    split at h <;> simp [isB] at h

theorem Skip_no (r : Nat) (ts : List Tok) (k : Nat) (s : ByteArray) (w : World) (h : Rd w r ts k) (hv : isB (peekT ts k) s = false) :
    Calls Tryd.prog 17 #[.pointer (some ⟨r, 0, none⟩), .string s] w fun e w' => e = .returned (.bool false) ∧ Below w.heap.size w w' := by
  have HI := Lib.hid (Is_bool_tok r ts k s false w h hv)
  clear h hv
  go_enter Tryd.func17, Tryd.ntmps17
  go_wp2_with (go_at_call 15; refine HI.out.mono ?_; rintro e w2 ⟨rfl, hb⟩)
  go_ret
  exact ⟨rfl, hb⟩
theorem Skip_yes (r : Nat) (ts : List Tok) (k : Nat) (s : ByteArray) (w : World) (h : Rd w r ts k) (hv : isB (peekT ts k) s = true) :
    Calls Tryd.prog 17 #[.pointer (some ⟨r, 0, none⟩), .string s] w fun e w' => e = .returned (.bool true) ∧ RdPost r ts (k + 1) w w' := by
  have hk := isB_in hv
  have HR := Lib.hid h
  have HI := Lib.hid (Is_bool_tok r ts k s true w h hv)
  clear h hv
  go_enter Tryd.func17, Tryd.ntmps17
  go_wp2_with (go_at_call 15; refine HI.out.mono ?_; rintro e w2 ⟨rfl, hb⟩)
  refine (Take_in r ts k w2 (HR.out.below hb) hk).mono ?_
  rintro e w3 ⟨rfl, hp⟩
  obtain ⟨hp1, hp2⟩ := hp
  go_wp2_with fail
  go_ret
  exact ⟨rfl, hp1, (gr_below hb).trans hp2⟩

/-! ### of nobody -/
theorem Peek_nil (w : World) :
    Calls Tryd.prog 14 #[.pointer none] w fun e w' => e = .returned (.agg #[.int .u8 4, .string ⟨#[]⟩, .int .i64 0, .int .i64 0]) ∧ Below w.heap.size w w' := by
  go_enter Tryd.func14, Tryd.ntmps14
  go_wp2
  exact bodyPost_ret (v := Tok.val ⟨4, ⟨#[]⟩, 0, 0⟩) (by simp [results, Tok.val, tokV, Tryd.results14, go_sem]) rfl ⟨rfl, (Below.refl _ _).alloc (Nat.le_refl _) _⟩
theorem Is_nil (s : ByteArray) (w : World) :
    Calls Tryd.prog 15 #[.pointer none, .string s] w fun e w' => e = .returned (.bool false) ∧ Below w.heap.size w w' := by
  go_enter Tryd.func15, Tryd.ntmps15
  go_wp2_with (go_at_call 14; refine (Peek_nil _).mono ?_; rintro e w2 ⟨rfl, hb⟩)
  go_ret
  exact ⟨rfl, hb.alloc hb.size _⟩
theorem Skip_nil (s : ByteArray) (w : World) :
    Calls Tryd.prog 17 #[.pointer none, .string s] w fun e w' => e = .returned (.bool false) ∧ Below w.heap.size w w' := by
  go_enter Tryd.func17, Tryd.ntmps17
  go_wp2_with (go_at_call 15; refine (Is_nil s _).mono ?_; rintro e w2 ⟨rfl, hb⟩)
  go_ret
  exact ⟨rfl, hb⟩
set_option maxRecDepth 100000 in
theorem Take_nil (w : World) :
    Calls Tryd.prog 16 #[.pointer none] w fun e w' => e = .returned (.agg #[.int .u8 4, .string ⟨#[]⟩, .int .i64 0, .int .i64 0]) ∧ Below w.heap.size w w' := by
  go_enter Tryd.func16, Tryd.ntmps16
  go_wp2_with (go_at_call 14; refine (Peek_nil _).mono ?_; rintro e w2 ⟨rfl, hb⟩)
  simp at hb
  obtain ⟨⟨hc0, hc1, hc2, hc3⟩, ⟨hf0, hf1, hf2, hf3⟩, hz, hbw⟩ := own_cells hb
  have HBW := Lib.hid hbw
  clear hb hbw
  go_quiet (fail)
  go_wp2
  exact bodyPost_ret (v := Tok.val ⟨4, ⟨#[]⟩, 0, 0⟩) (by simp [results, Tok.val, tokV, Tryd.results16, go_sem, hc0, hc1, hc2, hc3, hz]) rfl ⟨rfl, below_set4 (below_dN (HBW.out.alloc (Nat.le_of_lt hz) _) _) _ _ _ _⟩

/-! ### a new one -/
/-- A new slice of tokens. -/
def NewToks (ts : List Tok) (w : World) (e : Ending) (w' : World) : Prop :=
  ∃ a cap, e = .returned (.slice a ts.length cap) ∧ Toks w' a cap ts ∧ Below w.heap.size w w' ∧ ∀ b off, a = some ⟨b, off, none⟩ → w.heap.size ≤ b
theorem owns_empty4 (w : World) (T : TypeId) : (w.alloc (.cells #[] T)).ownsRow w.heap.size T 4 (.slice (some ⟨w.heap.size, 0, none⟩) 0 0) 0 [] := by
  refine ⟨rfl, .inr ⟨w.heap.size, 0, #[], rfl, Nat.le_refl _, ?_, Nat.le_refl _, by decide, rfl, rfl⟩⟩
  show (w.heap.push _)[w.heap.size]? = _
  simp
theorem toks_cells {w : World} {ad : Addr} {cap : Nat} {ts : List Tok} (h : Toks w (some ad) cap ts) : ∀ j u, (tokCells ts)[j]? = some u → w.cell? (ad.add j) = some u := by
  intro j u hu
  rcases h.rd with e | ⟨b, off, e, hb, hc⟩
  · rw [e] at hu; simp at hu
  · cases e
    rw [plain_at]
    exact hc j u hu
theorem tokCells_one' (ts : List Tok) : ∀ u ∈ tokCells ts, u.oneCell' = true := by
  intro u hu
  unfold tokCells at hu
  rw [List.mem_flatMap] at hu
  obtain ⟨t, _, hu⟩ := hu
  exact one_cs t u hu
theorem newToks_owns {w w' : World} {T n : Nat} {v : Value} {ts : List Tok} (hown : w'.ownsRow w.heap.size T 4 v n ([] ++ tokCells ts)) (hb : Below w.heap.size w w') : NewToks ts w (.returned v) w' := by
  rw [List.nil_append] at hown
  have hl := hown.1
  rw [tokCells_len] at hl
  obtain rfl : ts.length = n := by omega
  obtain ⟨a, cap, rfl, hs⟩ := slV_owns hown
  refine ⟨a, cap, rfl, hs, hb, fun b off e => ?_⟩
  rcases hown.2 with ⟨h1, _⟩ | ⟨g, c, cur, h1, hg, _⟩
  · injection h1 with h1
    rw [h1] at e; cases e
  · injection h1 with h1
    rw [h1] at e
    cases e
    exact hg

set_option maxRecDepth 100000 in
theorem Clone_toks (a : Option Addr) (cap : Nat) (ts : List Tok) (w : World) (h : Toks w a cap ts) (hn : ts.length ≤ 70000) :
    Calls Tryd.prog 27 #[.slice a ts.length cap] w (NewToks ts w) := by
  have hcap := h.le
  have HT := Lib.hid h
  obtain ⟨i0, hi, hz0, hz1, hz2⟩ := info_parts infoTok
  cases a with
  | none =>
    have hc := h.nil rfl
    subst hc
    have hts : ts = [] := List.length_eq_zero_iff.1 (by omega)
    subst hts
    have hq : ∀ W, (binOp .eql 24 (.slice none 0 0) (.slice none 0 0)).run Tryd.prog W = .ok (.bool true) W := fun W => by kernel_rfl
    go_enter Tryd.func27, Tryd.ntmps27
    go_wp2
    go_ret
    exact ⟨none, 0, rfl, toks_nil _, Below.refl _ _, fun b off h => by cases h⟩
  | some ad =>
    have hq := fun W => Lib.run_eql_slice_nil (P := Tryd.prog) W 24 37 (some ad) ts.length cap 0 0 Tryd.underlying24
    have hown := owns_empty4 w 37
    have hcl := toks_cells (h.below ((Below.refl _ _).alloc (Nat.le_refl _) (.cells #[] 37)))
    have HC := Lib.hid hcl
    clear hcl h
    go_enter Tryd.func27, Tryd.ntmps27
    go_wp2_with (at_builtin; refine wpList_append_own _ rfl (.tmp 5) (.tmp 6) 24 rfl w.heap.size 37 i0 _ 4 40 Tryd.underlying24 hi hz0 hz1 hz2 rfl (by decide) _ _ _ rfl hown ad ts.length cap (tokCells ts) rfl (tokCells_len ts) ?c1 ?c2 ?c3 ?c4 ?c5 ?_)
    case c1 => exact HC.out
    case c2 => exact tokCells_one' ts
    case c3 => unfold maxLen; omega
    case c4 => omega
    case c5 => simp
    intro v' w2 hown2 hgrow2 hnil2
    have hb2 : Below w.heap.size w w2 := ((Below.refl _ _).alloc (Nat.le_refl _) _).grown hgrow2 (by simp) (fun k hk => (hown.lt k hk).1)
    clear hown hgrow2
    go_wp2_with fail
    go_ret
    exact newToks_owns hown2 hb2

/-- A new reader at the first token; a write to an elder block leaves it alone. -/
def NewRd (ts : List Tok) (w : World) (e : Ending) (w' : World) : Prop :=
  ∃ r, e = .returned (.pointer (some ⟨r, 0, none⟩)) ∧ Rd w' r ts 0 ∧ Below w.heap.size w w' ∧ w.heap.size ≤ r ∧ ∀ g w'', g < w.heap.size → w'.grownBy w'' (some g) → Rd w'' r ts 0
theorem newRd_fin {ts : List Tok} {w w2 : World} {a : Option Addr} {cap : Nat} (h : Toks w2 a cap ts) (hb : Below w.heap.size w w2) (ha : ∀ b off, a = some ⟨b, off, none⟩ → w.heap.size ≤ b) :
    NewRd ts w (.returned (.pointer (some ⟨w2.heap.size, 0, none⟩))) (w2.alloc (.cells #[.slice a ts.length cap, .int .i64 0] 53)) := by
  have hz := hb.size
  have h1 : (w2.alloc (.cells #[.slice a ts.length cap, .int .i64 0] 53)).heap[w2.heap.size]? = some (.cells #[.slice a ts.length cap, .int .i64 0] 53 (0, 0)) := by
    show (w2.heap.push _)[w2.heap.size]? = _
    simp
  have h2 : Toks (w2.alloc (.cells #[.slice a ts.length cap, .int .i64 0] 53)) a cap ts := h.below ((Below.refl _ _).alloc (Nat.le_refl _) _)
  have h4 : 0 < ts.length → ∀ b off, a = some ⟨b, off, none⟩ → b ≠ w2.heap.size := fun h0 b off e => by
    rcases h.rd with e0 | ⟨b', off', e1, hlt, _⟩
    · have := congrArg List.length e0
      rw [tokCells_len] at this
      simp only [List.length_nil] at this
      omega
    · rw [e] at e1
      cases e1
      omega
  refine ⟨w2.heap.size, rfl, ⟨a, cap, h1, h2, Nat.zero_le _, h4⟩, hb.alloc hz _, hz, fun g w'' hg hgr => ⟨a, cap, ?_, h2.keep hgr.size fun h0 b off e hb' => hgr.block b hb' ?_, Nat.zero_le _, h4⟩⟩
  · rw [hgr.block w2.heap.size (by simp) (by intro e; injection e with e; omega)]
    exact h1
  · intro e'
    injection e' with e'
    have := ha b off e
    omega
theorem NewReader_any (a : Option Addr) (cap : Nat) (ts : List Tok) (w : World) (h : Toks w a cap ts) (hn : ts.length ≤ 70000) :
    Calls Tryd.prog 13 #[.slice a ts.length cap] w (NewRd ts w) := by
  have HC := Lib.hid (Clone_toks a cap ts w h hn)
  clear h
  go_enter Tryd.func13, Tryd.ntmps13
  go_wp2_with (go_at_call 27; refine HC.out.mono ?_; rintro e w2 ⟨a2, c2, rfl, h2, hb2, ha2⟩; have HA := Lib.hid ha2; clear ha2)
  go_ret
  exact newRd_fin h2 hb2 HA.out

/-! ### writes over tokens of the call's own -/
/-- The tokens that lie at ag may be written over: the reader stays, and so does what w had. -/
def Zg (w wr : World) (r : Nat) (ts : List Tok) (ag : Option Addr) : Prop :=
  Rd wr r ts 0 ∧ Below w.heap.size w wr ∧ (0 < ts.length → ∃ g, ag = some ⟨g, 0, none⟩ ∧ w.heap.size ≤ g ∧ (∀ w'', wr.grownBy w'' (some g) → Rd w'' r ts 0) ∧ ∃ cur : Array Value, wr.heap[g]? = some (.cells cur 37 (0, 0)) ∧ ts.length * 4 ≤ cur.size)
theorem zg_start {w w1 w2 w3 : World} {r : Nat} {ts : List Tok} {ag : Option Addr} {cg : Nat} (hown : w2.ownsRow w1.heap.size 37 4 (.slice ag ts.length cg) ts.length (tokCells ts)) (hw : w.heap.size ≤ w1.heap.size)
    (h2 : Below w.heap.size w w2) (h3 : Below w2.heap.size w2 w3) (hr : Rd w3 r ts 0) (hk : ∀ g w'', g < w2.heap.size → w3.grownBy w'' (some g) → Rd w'' r ts 0) : Zg w w3 r ts ag := by
  refine ⟨hr, h2.trans (h3.mono h2.size), fun h0 => ?_⟩
  have hl := hown.1
  rcases hown.2 with ⟨_, e⟩ | ⟨g, cap, cur, e, hg, hh, hnc, _, hcs, htk⟩
  · rw [e] at hl; simp at hl; omega
  · injection e with e1 e2
    have hlt : g < w2.heap.size := by
      rcases Nat.lt_or_ge g w2.heap.size with h | h
      · exact h
      · rw [Array.getElem?_eq_none h] at hh; cases hh
    exact ⟨g, e1, by omega, fun w'' => hk g w'' hlt, cur, by rw [h3.block g hlt]; exact hh, by rw [hcs]; omega⟩
theorem zg_step {w wr : World} {r : Nat} {ts : List Tok} {g i : Nat} {v0 v1 v2 v3 : Value} (h : Zg w wr r ts (some ⟨g, 0, none⟩)) (hn : 0 < ts.length) :
    Zg w ((((wr.setCell ⟨g, i, none⟩ v0).setCell ⟨g, i + 1, none⟩ v1).setCell ⟨g, i + 2, none⟩ v2).setCell ⟨g, i + 3, none⟩ v3) r ts (some ⟨g, 0, none⟩) := by
  obtain ⟨h1, h2, h3⟩ := h
  obtain ⟨g', e, hg, hk, cur, hc, hs⟩ := h3 hn
  cases e
  have g0 : wr.grownBy (wr.setCell ⟨g, i, none⟩ v0) (some g) := gr_set (World.grownBy.refl _ _) (p := ⟨g, i, none⟩) (.inl rfl) v0
  have g1 := gr_set g0 (p := ⟨g, i + 1, none⟩) (.inl rfl) v1
  have g2 := gr_set g1 (p := ⟨g, i + 2, none⟩) (.inl rfl) v2
  have g3 := gr_set g2 (p := ⟨g, i + 3, none⟩) (.inl rfl) v3
  have c0 := Joins.block_setCell (i := i) hc v0
  have c1 := Joins.block_setCell (i := i + 1) c0 v1
  have c2 := Joins.block_setCell (i := i + 2) c1 v2
  have c3 := Joins.block_setCell (i := i + 3) c2 v3
  have b0 := h2.setCell (p := ⟨g, i, none⟩) hg v0
  have b1 := b0.setCell (p := ⟨g, i + 1, none⟩) hg v1
  have b2 := b1.setCell (p := ⟨g, i + 2, none⟩) hg v2
  have b3 := b2.setCell (p := ⟨g, i + 3, none⟩) hg v3
  refine ⟨hk _ g3, b3, fun _ => ⟨g, rfl, hg, fun w'' hw => hk w'' (g3.trans hw), _, c3, ?_⟩⟩
  simp only [Array.size_setIfInBounds]
  exact hs
theorem zg_cells {w wr : World} {r k : Nat} {ts : List Tok} {ag : Option Addr} (h : Zg w wr r ts ag) (hk : k < ts.length) : ∃ g v0 v1 v2 v3, ag = some ⟨g, 0, none⟩ ∧
    wr.cell? ⟨g, k * 4, none⟩ = some v0 ∧ wr.cell? ⟨g, k * 4 + 1, none⟩ = some v1 ∧ wr.cell? ⟨g, k * 4 + 2, none⟩ = some v2 ∧ wr.cell? ⟨g, k * 4 + 3, none⟩ = some v3 ∧
    wr.frozen? ⟨g, k * 4, none⟩ = false ∧ wr.frozen? ⟨g, k * 4 + 1, none⟩ = false ∧ wr.frozen? ⟨g, k * 4 + 2, none⟩ = false ∧ wr.frozen? ⟨g, k * 4 + 3, none⟩ = false := by
  obtain ⟨g, e, _, _, cur, hc, hs⟩ := h.2.2 (by omega)
  have hg : ∀ j, j < ts.length * 4 → ∃ v, wr.cell? ⟨g, j, none⟩ = some v := fun j hj => by
    rw [cell_blk hc, Array.getElem?_eq_getElem (by omega)]
    exact ⟨_, rfl⟩
  obtain ⟨v0, h0⟩ := hg (k * 4) (by omega)
  obtain ⟨v1, h1⟩ := hg (k * 4 + 1) (by omega)
  obtain ⟨v2, h2⟩ := hg (k * 4 + 2) (by omega)
  obtain ⟨v3, h3⟩ := hg (k * 4 + 3) (by omega)
  exact ⟨g, v0, v1, v2, v3, e, h0, h1, h2, h3, frozen_blk hc _, frozen_blk hc _, frozen_blk hc _, frozen_blk hc _⟩
end Go.Proofs.YtifhmanmnjhfiaaDoor
