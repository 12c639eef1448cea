import Derived.Test.YtipfbppkahfnmaaDoorLxH
import Derived.Test.YtipfbppkahfnmaaDoorRnO
namespace Go.Proofs.YtipfbppkahfnmaaDoor
open Go.RowKit RM LM
set_option linter.unusedVariables false

/-- A token's cells. -/
def Tok.cs (t : Tok) : List Value := [.int .u8 t.kind, .string t.text, .int .i64 t.n, .int .i64 t.at_]
def tokCells (ts : List Tok) : List Value := ts.flatMap Tok.cs
theorem tokCells_len (ts : List Tok) : (tokCells ts).length = ts.length * 4 := by
  induction ts with
  | nil => rfl
  | cons t r ih => unfold tokCells at ih ⊢; rw [List.flatMap_cons, List.length_append, ih]; simp [Tok.cs]; omega
theorem tokCells_append (a b : List Tok) : tokCells (a ++ b) = tokCells a ++ tokCells b := by unfold tokCells; rw [List.flatMap_append]
theorem tokCells_one (t : Tok) : tokCells [t] = Tok.cs t := by unfold tokCells; simp
theorem tokCells_at (ts : List Tok) (k j : Nat) (hk : k < ts.length) (hj : j < 4) : (tokCells ts)[k * 4 + j]? = (Tok.cs ts[k])[j]? := by
  induction ts generalizing k with
  | nil => simp at hk
  | cons t r ih =>
    have e : tokCells (t :: r) = Tok.cs t ++ tokCells r := by unfold tokCells; rw [List.flatMap_cons]
    have e4 : (Tok.cs t).length = 4 := rfl
    rw [e]
    cases k with
    | zero => rw [List.getElem?_append_left (by omega)]; simp
    | succ k =>
      rw [List.getElem?_append_right (by omega), show (k + 1) * 4 + j - (Tok.cs t).length = k * 4 + j by omega]
      exact ih k (by simpa using hk)

/-- A slice of tokens. -/
def Toks (w : World) (a : Option Addr) (cap : Nat) (ts : List Tok) : Prop := SlV w 4 a ts.length cap (tokCells ts)
theorem Toks.below {w w' : World} {a : Option Addr} {cap : Nat} {ts : List Tok} (h : Toks w a cap ts) (hb : Below w.heap.size w w') : Toks w' a cap ts := SlV.below h hb
theorem Toks.at_ {w : World} {a : Option Addr} {cap k : Nat} {ts : List Tok} (h : Toks w a cap ts) (hk : k < ts.length) :
    ∃ b off, a = some ⟨b, off, none⟩ ∧ b < w.heap.size ∧ w.cell? ⟨b, off + k * 4, none⟩ = some (.int .u8 ts[k].kind) ∧ w.cell? ⟨b, off + k * 4 + 1, none⟩ = some (.string ts[k].text) ∧
      w.cell? ⟨b, off + k * 4 + 2, none⟩ = some (.int .i64 ts[k].n) ∧ w.cell? ⟨b, off + k * 4 + 3, none⟩ = some (.int .i64 ts[k].at_) := by
  rcases h.rd with h0 | ⟨b, off, h1, h2, h3⟩
  · have := congrArg List.length h0
    rw [tokCells_len] at this
    simp only [List.length_nil] at this
    omega
  · exact ⟨b, off, h1, h2, h3 _ _ (tokCells_at ts k 0 hk (by omega)), h3 _ _ (tokCells_at ts k 1 hk (by omega)), h3 _ _ (tokCells_at ts k 2 hk (by omega)), h3 _ _ (tokCells_at ts k 3 hk (by omega))⟩

/-- What Tokens answers. -/
def ToksPost (l : List Int) (w : World) (e : Ending) (w' : World) : Prop :=
  ∃ a cap, e = .returned (.tuple #[.slice a (toksV l).1.length cap, .int .i64 (toksV l).2.1, .int .u8 (toksV l).2.2]) ∧ Toks w' a cap (toksV l).1 ∧ Below w.heap.size w w'

theorem toks_nil (w : World) : Toks w none 0 [] := ⟨Nat.le_refl _, by omega, rfl, .inl rfl, fun _ => rfl⟩
theorem toks_bad {l : List Int} {w w' : World} {x c : Int} (h : toksV l = ([], x, c)) (hb : Below w.heap.size w w') : ToksPost l w (.returned (.tuple #[.slice none 0 0, .int .i64 x, .int .u8 c])) w' := by
  unfold ToksPost
  rw [h]
  exact ⟨none, 0, rfl, toks_nil _, hb⟩
theorem toks_good {l : List Int} {w w' : World} {T n : Nat} {ts : List Tok} {v : Value} (h : toksV l = (ts, 0, 0)) (hb : Below w.heap.size w w') (hown : w'.ownsRow w.heap.size T 4 v n (tokCells ts)) : ToksPost l w (.returned (.tuple #[v, .int .i64 0, .int .u8 0])) w' := by
  unfold ToksPost
  rw [h]
  obtain ⟨a, cap, rfl, hs⟩ := slV_owns hown
  have hl := hs.len
  rw [tokCells_len] at hl
  obtain rfl : ts.length = n := by omega
  exact ⟨a, cap, rfl, hs, hb⟩

theorem infoTok : (Tryd.prog.info? 37).map (fun i => (i.zero, i.size, i.bytes)) = some (some (.agg #[.int .u8 0, .string ⟨#[]⟩, .int .i64 0, .int .i64 0]), 4, 40) := by kernel_rfl

theorem cells_new4 (w : World) (g : Nat) (hg : g = w.heap.size) (t : Tok) (T : TypeId) : ∀ j u, (Tok.cs t)[j]? = some u → (w.alloc (.cells #[.int .u8 t.kind, .string t.text, .int .i64 t.n, .int .i64 t.at_] T)).cell? ((⟨g, 0, none⟩ : Addr).add j) = some u := by
  intro j u hj
  subst hg
  rw [plain_at, World.cell?_alloc_at _ _ _ _ rfl, Nat.zero_add]
  rw [← hj]
  exact List.getElem?_toArray
theorem one_cs (t : Tok) : ∀ u ∈ Tok.cs t, u.oneCell' = true := by
  intro u hu
  simp [Tok.cs] at hu
  rcases hu with rfl | rfl | rfl | rfl <;> rfl
theorem owns_more {w : World} {base T : Nat} {v : Value} {n : Nat} {acc : List Tok} {t : Tok} (h : w.ownsRow base T 4 v (n + 1) (tokCells acc ++ Tok.cs t)) : w.ownsRow base T 4 v (n + 1) (tokCells (acc ++ [t])) := by
  rw [tokCells_append, tokCells_one]; exact h

theorem Sl.from {k : IntKind} {w : World} {a : Option Addr} {cap : Nat} {l : List Int} (h : Sl k w a cap l) {b off : Nat} (ha : a = some ⟨b, off, none⟩) (hlb : b < w.heap.size) (hc : ∀ i, i < l.length → w.cell? ⟨b, off + i, none⟩ = some (.int k (l.getD i 0))) (p : Nat) (hp : p < l.length) :
    Sl k w (some ⟨b, off + p, none⟩) (cap - p) (l.drop p) := by
  have hl := h.le
  have hm := h.mx
  refine ⟨by simp; omega, by omega, .inr ⟨b, off + p, rfl, hlb, fun i hi => ?_⟩, fun h => by cases h⟩
  simp at hi
  rw [Nat.add_assoc, hc (p + i) (by omega), getD_drop]

theorem piece_at (a : Option Addr) (n cap : Nat) (l : List Int) (x : Tok × Int × Int) (w : World) (h : Sl .u8 w a cap l) (hb : Byt l) (h0 : l ≠ []) (hl : l.length ≤ 65536) (hv : EV w) (hn : l.length = n) (hx : pieceV l = x) :
    Calls Tryd.prog 18 #[.slice a n cap] w fun e w' => e = .returned (.tuple #[.agg #[.int .u8 x.1.kind, .string x.1.text, .int .i64 x.1.n, .int .i64 x.1.at_], .int .i64 x.2.1, .int .u8 x.2.2]) ∧ Below w.heap.size w w' := by
  subst hn hx
  exact piece_any a cap l w h hb h0 hl hv

set_option maxRecDepth 100000 in
set_option maxHeartbeats 2000000 in
theorem Tokens_any (a : Option Addr) (cap : Nat) (l : List Int) (w : World) (h : Sl .u8 w a cap l) (hb : Byt l) (hv : EV w) :
    Calls Tryd.prog 8 #[.slice a l.length cap] w (ToksPost l w) := by
  have hcap := h.le
  have hmax := h.mx
  have HS := Lib.hid h
  have HB := Lib.hid hb
  have HV := Lib.hid hv
  clear h hb hv
  by_cases hl : 65536 < l.length
  · have HF := Lib.hid (show toksV l = ([], 0, 7) by unfold toksV; rw [if_pos hl])
    go_enter Tryd.func8, Tryd.ntmps8
    go_wp2_with fail
    go_ret3
    exact toks_bad HF.out (Below.refl _ _)
  obtain ⟨i0, hi, hz0, hz1, hz2⟩ := info_parts infoTok
  have HM := Lib.hid (TMet.start (l := l) (by omega))
  go_enter Tryd.func8, Tryd.ntmps8
  go_wp2_with fail
  go_loopw [5, 6, 7, 8, 9] (fun v i _ _ _ w1 => ∃ (p n : Nat) (acc : List Tok), Hid (TMet l p acc) ∧ p ≤ l.length ∧ n ≤ p ∧ i = .int .i64 p ∧ w1.ownsRow w.heap.size 37 4 v n (tokCells acc) ∧ Below w.heap.size w w1) (fun _ i _ _ _ _ => l.length - (intOf i).toNat)
  case atStart => exact ⟨0, 0, [], HM.out, by omega, by omega, rfl, World.ownsRow_nil _ _ _ _, Below.refl _ _⟩
  case round =>
    obtain ⟨p, n, acc, hm, hp, hnp, rfl, hown, hbel⟩ := hrel
    have hsz : w.heap.size ≤ wr.heap.size := hbel.size
    by_cases hlt : p < l.length
    · rcases HS.out.rd with e | ⟨b, off, rfl, hlb, hc⟩
      · rw [e] at hlt; simp at hlt
      have HS1 := Lib.hid (fun w1 hb1 => (HS.out.from rfl hlb hc p hlt).below hb1 (w' := w1))
      have HL := Lib.hid (show (l.drop p).length = l.length - p by simp)
      have HP := Lib.hid (fun x hx w1 hb1 => piece_at _ (l.length - p) (cap - p) (l.drop p) x w1 (HS1.out w1 hb1) (HB.out.drop p) (drop_ne hlt) (by simp; omega) (HV.out.below hb1) HL.out hx)
      obtain ⟨x, hx⟩ : ∃ x, pieceV (l.drop p) = x := ⟨_, rfl⟩
      obtain ⟨⟨tk, tt, tn, ta⟩, y, c⟩ := x
      have HPC := Lib.hid (HP.out _ hx)
      clear hc HP
      have hpc : p < cap := by omega
      have hpc2 : p ≤ cap := by omega
      by_cases hc : c = 0
      · subst hc
        obtain ⟨m, rfl, hm1, hm2⟩ := piece_size (drop_ne hlt) hx
        rw [HL.out] at hm2
        by_cases ht : tk = 0
        · subst ht
          have HM2 := Lib.hid (hm.out.none hlt hx rfl)
          clear hx
          go_wp2_with fail
          refine (HPC.out _ hbel).mono ?_
          rintro e w2 ⟨rfl, hb2⟩
          have hown2 := owns_below hown hb2
          have hbel2 := hbel.trans (hb2.mono hbel.size)
          have hsz2 := hbel2.size
          clear hown hbel hb2
          go_wp2_with fail
          go_roundw
          case rel => exact ⟨p + m, n, acc, HM2.out, by omega, by omega, by go_num, hown2.alloc _, hbel2.alloc hsz2 _⟩
          case measure => simp [intOf]; omega
        · have HM2 := Lib.hid (hm.out.tok hlt hx ht)
          have ht' : (tk != 0) = true := by simp [ht]
          clear hx ht
          go_wp2_with fail
          refine (HPC.out _ hbel).mono ?_
          rintro e w2 ⟨rfl, hb2⟩
          have hown2 := owns_below hown hb2
          have hbel2 := hbel.trans (hb2.mono hbel.size)
          have hsz2 := hbel2.size
          clear hown hbel hb2
          go_wp2_with (at_builtin; refine wpList_append_own _ rfl (.tmp 36) (.tmp 38) 24 rfl w.heap.size 37 i0 _ 4 40 Tryd.underlying24 hi hz0 hz1 hz2 rfl (by decide) _ _ _ rfl ((hown2.alloc _).alloc _) ⟨w2.heap.size + 1, 0, none⟩ 1 1 (Tok.cs ⟨tk, tt, tn, p⟩) rfl rfl ?c1 ?c2 ?c3 ?c4 ?c5 ?_)
          case c1 => exact cells_new4 (w2.alloc _) _ (by simp) ⟨tk, tt, tn, p⟩ _
          case c2 => exact one_cs _
          case c3 => unfold maxLen; omega
          case c4 => omega
          case c5 => simp; omega
          intro v' w3 hown3 hgrow3 hnil3
          have hbel3 : Below w.heap.size w w3 := ((hbel2.alloc hsz2 _).alloc (by simp; omega) _).grown hgrow3 (by simp; omega) (fun k hk => (hown2.lt k hk).1)
          have hown3' := owns_more hown3
          clear hown2 hgrow3 hbel2 hnil3 hown3
          go_wp2_with fail
          go_roundw
          case rel => exact ⟨p + m, n + 1, acc ++ [(⟨tk, tt, tn, (p : Int)⟩ : Tok)], HM2.out, by omega, by omega, by go_num, hown3', hbel3⟩
          case measure => simp [intOf]; omega
      · have HF := Lib.hid (hm.out.bad hlt hx hc)
        obtain ⟨hy0, hy1, _⟩ := piece_place (drop_ne hlt) hx hc
        rw [HL.out] at hy1
        have hc' : (c != 0) = true := by simp [hc]
        clear hc hx
        go_wp2_with fail
        refine (HPC.out _ hbel).mono ?_
        rintro e w2 ⟨rfl, hb2⟩
        go_wp2_with fail
        go_ret3
        exact toks_bad HF.out ((hbel.trans (hb2.mono hbel.size)).alloc (Nat.le_trans hbel.size hb2.size) _)
    · have HF := Lib.hid (hm.out.fin hlt)
      go_wp2_with (at_builtin; refine wpList_append_own _ rfl (.tmp 43) (.tmp 47) 24 rfl w.heap.size 37 i0 _ 4 40 Tryd.underlying24 hi hz0 hz1 hz2 rfl (by decide) _ _ _ rfl (hown.alloc _) ⟨wr.heap.size, 0, none⟩ 1 1 (Tok.cs ⟨4, ⟨#[]⟩, 0, l.length⟩) rfl rfl ?d1 ?d2 ?d3 ?d4 ?d5 ?_)
      case d1 => exact cells_new4 wr _ rfl ⟨4, ⟨#[]⟩, 0, l.length⟩ _
      case d2 => exact one_cs _
      case d3 => unfold maxLen; omega
      case d4 => omega
      case d5 => simp; omega
      intro v' w3 hown3 hgrow3 hnil3
      have hbel3 : Below w.heap.size w w3 := (hbel.alloc hsz _).grown hgrow3 (by simp; omega) (fun k hk => (hown.lt k hk).1)
      have hown3' := owns_more hown3
      clear hown hgrow3 hbel hnil3 hown3
      go_wp2_with fail
      go_ret3
      exact toks_good HF.out hbel3 hown3'
end Go.Proofs.YtipfbppkahfnmaaDoor
