import Derived.Test.YtchepcokcbpmmaaJ
import Derived.Laws.AppendOwnNone
namespace Go.Proofs.Ytchepcokcbpmmaa
open Go.RowKit RM
set_option linter.unusedVariables false

/-- append of a slice that reads as l, nil or not, to a slice of the call's own. -/
theorem wpList_append_sl {P : Program} {w : World} {ops : Array Oper} {rest : List Oper} {o : Oper} {a : Act} {Q : Exit → Act → World → Prop} (hgd : o.guard = none) (s x : Operand) (t : TypeId)
    (ho : o.op = .call { callee := .builtin .append, args := #[s, x], argTypes := #[t, t] })
    (base : Nat) (e : TypeId) (i : TypeInfo) (z : Value) (bytes : Nat) (ht : P.underlying t = some (.slice e)) (hi : P.info? e = some i) (hz : i.zero = some z)
    (hsize : i.size = 1) (hby : i.bytes = bytes) (hzs : z.cells.size = 1)
    (v : Value) (n : Nat) (xs : List Value) (hs : a.eval s = v) (hown : w.ownsRow base e 1 v n xs)
    (k : IntKind) (ad : Option Addr) (m c : Nat) (l : List Int) (hx : a.eval x = .slice ad m c) (hl : l.length = m) (hsl : Sl k w ad c l)
    (h63 : n + m ≤ maxLen) (hbytes : (n + m) * bytes ≤ 140737488355328) (hbase : base ≤ w.heap.size)
    (h : ∀ v' w', w'.ownsRow base e 1 v' (n + m) (xs ++ l.map (Value.int k)) → w.grownBy w' v.ownBlock → wpList P ops Q rest (a.put o.dst v') w') : wpList P ops Q (o :: rest) a w := by
  subst hl
  cases ad with
  | none =>
    obtain rfl := hsl.nil rfl
    have hl : l = [] := List.length_eq_zero_iff.1 (by have := hsl.le; omega)
    subst hl
    refine wpList_append_own_none hgd s x t ho base e i 1 ht hi v n xs hs hown hx (h v w (by simpa using hown) ?_)
    exact ⟨rfl, rfl, rfl, Nat.le_refl _, fun _ _ _ => rfl⟩
  | some ad =>
    refine wpList_append_own w hgd s x t ho base e i z 1 bytes ht hi hz hsize hby hzs (by omega) v n xs hs hown ad l.length c (l.map (Value.int k)) hx (by simp) ?_ ?_ h63 hbytes hbase (fun v' w' h1 h2 _ => h v' w' h1 h2)
    · intro j u hj
      rcases hsl.rd with e | ⟨b, off, e, hlt, hc⟩
      · subst e; simp at hj
      · cases e
        have hj' : j < l.length := by
          by_cases hj' : j < l.length
          · exact hj'
          · rw [List.getElem?_eq_none (by simp; omega)] at hj; cases hj
        have h5 : (⟨b, off, none⟩ : Addr).add j = ⟨b, off + j, none⟩ := by
          by_cases j0 : j = 0
          · subst j0; simp [Addr.add]
          · simp [Addr.add, j0]
        rw [h5, hc j hj']
        rw [List.getElem?_map, List.getElem?_eq_getElem hj'] at hj
        simp at hj
        rw [← hj]
        simp [List.getD_eq_getElem?_getD, List.getElem?_eq_getElem hj']
    · intro u hu
      simp at hu
      obtain ⟨x, _, rfl⟩ := hu
      rfl

theorem owns_empty (w : World) (T : TypeId) : (w.alloc (.cells #[] T)).ownsRow w.heap.size T 1 (.slice (some ⟨w.heap.size, 0, none⟩) 0 0) 0 [] := by
  refine ⟨rfl, .inr ⟨w.heap.size, 0, #[], rfl, Nat.le_refl _, ?_, Nat.le_refl _, by decide, rfl, rfl⟩⟩
  show (w.heap.push _)[w.heap.size]? = _
  simp

theorem byt_append {l m : List Int} (h : Byt l) (k : Byt m) : Byt (l ++ m) := by
  intro i hi
  simp at hi
  by_cases c : i < l.length
  · rw [List.getD_eq_getElem?_getD, List.getElem?_append_left c, ← List.getD_eq_getElem?_getD]
    exact h i c
  · rw [List.getD_eq_getElem?_getD, List.getElem?_append_right (by omega), ← List.getD_eq_getElem?_getD]
    exact k _ (by omega)

theorem byt_enc {r : Int} (h : isPt r = true) : Byt (encB r) := by
  intro i hi
  refine encB_rng h _ ?_
  rw [List.getD_eq_getElem?_getD, List.getElem?_eq_getElem hi]; simp

theorem dec_back (l : List Int) {r : Int} (h : isPt r = true) (t : List Int) : Dec (l ++ (encB r ++ t)) l.length r := ⟨h, t, by simp⟩

theorem Same_eq (a : Option Addr) (n cap : Nat) (l : List Int) (a' : Option Addr) (n' cap' : Nat) (w : World) (h : Sl .u8 w a cap l) (h' : Sl .u8 w a' cap' l) (hn : l.length = n) (hn' : l.length = n') :
    Calls Try.prog 14 #[.slice a n cap, .slice a' n' cap'] w fun e w' => e = .returned (.bool true) ∧ ∃ n, w' = w.drewN n := by
  have := Same_at a n cap l a' n' cap' l w h h' hn hn'
  rw [decide_eq_true rfl] at this
  exact this

/-- THE LAW RunesPut. -/
theorem law_put (a : Option Addr) (cap : Nat) (l : List Int) (r : Int) (w : World) (h : Sl .u8 w a cap l) (hb : Byt l) (h1 : -2147483648 ≤ r) (h2 : r ≤ 2147483647) :
    Calls Try.prog 4 #[.slice a l.length cap, .int .i32 r] w fun e w' => e = .returned (.bool true) ∧ Below w.heap.size w w' := by
  have hcap := h.le
  have hmax := h.mx
  have HS := Lib.hid h
  have HB := Lib.hid hb
  by_cases hL : l.length ≤ 5000
  · by_cases hr : isPt r = true
    · obtain ⟨out, hout⟩ : ∃ out, out = l ++ encB r := ⟨_, rfl⟩
      have hpt := isPt_iff.1 hr
      have hlen := encB_len r
      have hol : out.length = l.length + (encB r).length := by rw [hout]; simp
      have hob : Byt out := by rw [hout]; exact byt_append hb (byt_enc hr)
      have hod : Dec out l.length r := by rw [hout]; have := dec_back l hr []; simpa using this
      have hput : ∀ w1, Sl .u8 w1 a cap l → Calls Try.prog 11 #[.slice a l.length cap, .int .i32 r] w1 (PutPost out w1) := fun w1 hs => by
        rw [hout]; exact put_ok a cap l r w1 hs hL hr
      have hbts : ∀ w1, Calls Try.prog 13 #[.int .i64 r] w1 (NewSl .u8 (encB r) w1) := fun w1 => Bytes_any r w1 hr
      have hcat : l.map (Value.int .u8) ++ (encB r).map (Value.int .u8) = out.map (Value.int .u8) := by rw [hout]; simp
      have HPUT := Lib.hid hput
      have HBTS := Lib.hid hbts
      have HCAT := Lib.hid hcat
      have HOB := Lib.hid hob
      have HOD := Lib.hid hod
      have HP := Lib.hid hr
      have hr1 : 0 ≤ r := by omega
      have hr2 : r ≤ 1114111 := by omega
      clear hput hbts hcat hob hod hr hpt hout h hb
      generalize hbs : encB r = bs at *
      have HBS := Lib.hid hbs
      clear hbs
      have hk : ((bs.length : Int) == (out.length : Int) - (l.length : Int)) = true := by rw [beq_iff_eq]; omega
      have HOL := Lib.hid hol
      have hol2 : out.length ≤ 6000 := by omega
      clear hol
      obtain ⟨i0, hi, hz0, hz1, hz2⟩ := info_parts info5
      go_enter Try.func4, Try.ntmps4
      go_wp2_with (go_at_call 8; refine (alive_any _).mono ?_; rintro e w1 ⟨rfl, hb1⟩)
      refine (HPUT.out _ (HS.out.below hb1)).mono ?_
      rintro e w2 ⟨a2, c2, rfl, hs2, hb2, _⟩
      have hb12 := hb1.trans (hb2.mono hb1.size)
      have HS2 := Lib.hid hs2
      have HB12 := Lib.hid hb12
      have hc2 := hs2.le
      have hm2 := hs2.mx
      clear hs2 hb12 hb1 hb2
      have hown0 := owns_empty w2 5
      have hsb2 : Sl .u8 (w2.alloc (.cells #[] 5)) a cap l := (HS.out.below HB12.out).below ((Below.refl _ _).alloc (Nat.le_refl _) _)
      have HOWN0 := Lib.hid hown0
      have HSB2 := Lib.hid hsb2
      clear hown0 hsb2
      go_wp2_with (first | (go_at_call 12; refine (Is_bool _ true _ HP.out (by omega) (by omega)).mono ?_; rintro e w' ⟨rfl, rfl⟩) | (at_builtin; refine wpList_append_sl rfl (.tmp 33) (.tmp 34) 22 rfl w2.heap.size 5 i0 (.int .u8 0) 1 Try.underlying22 hi hz0 hz1 hz2 rfl _ _ _ rfl HOWN0.out .u8 a l.length cap l rfl rfl HSB2.out ?c1 ?c2 ?c3 ?_))
      case c1 => unfold maxLen; omega
      case c2 => omega
      case c3 => simp
      intro v3 w3 hown3 hgrow3
      have hb3 : Below w2.heap.size w2 w3 := ((Below.refl _ _).alloc (Nat.le_refl _) _).grown hgrow3 (by simp) (fun k hk => by simp [Value.ownBlock] at hk; omega)
      clear hgrow3
      have HOWN3 := Lib.hid hown3
      have HB3 := Lib.hid hb3
      clear hown3 hb3
      go_wp2_with fail
      refine (HBTS.out _).mono ?_
      rintro e w4 ⟨a4, c4, rfl, hs4, hb4⟩
      have hown4 := owns_below HOWN3.out hb4
      have hb24 : Below w2.heap.size w2 w4 := HB3.out.trans (hb4.mono HB3.out.size)
      have hsz4 := hb24.size
      have HOWN4 := Lib.hid hown4
      have HB24 := Lib.hid hb24
      have HS4 := Lib.hid hs4
      clear hown4 hb24 hs4 hb4
      go_wp2_with (at_builtin; refine wpList_append_sl rfl (.tmp 35) (.tmp 38) 22 rfl w2.heap.size 5 i0 (.int .u8 0) 1 Try.underlying22 hi hz0 hz1 hz2 rfl _ _ _ rfl HOWN4.out .u8 a4 bs.length c4 bs rfl rfl HS4.out ?d1 ?d2 ?d3 ?_)
      case d1 => unfold maxLen; omega
      case d2 => omega
      case d3 => exact hsz4
      intro v5 w5 hown5 hgrow5
      have hb25 : Below w2.heap.size w2 w5 := HB24.out.grown hgrow5 hsz4 (fun k hk => (HOWN4.out.lt k hk).1)
      rw [HCAT.out] at hown5
      obtain ⟨a5, c5, hv5, hs5⟩ := sl_of_owns hown5
      subst hv5
      have hs25 := HS2.out.below hb25
      have HS5 := Lib.hid hs5
      have HS25 := Lib.hid hs25
      have HB25 := Lib.hid hb25
      have hc5 := hs5.le
      have hm5 := hs5.mx
      clear hs5 hs25 hb25 hgrow5 hown5
      go_wp2_with (go_at_call 14; refine (Same_eq _ _ _ out _ _ _ _ HS25.out HS5.out rfl rfl).mono ?_; rintro e w6 ⟨rfl, n6, rfl⟩)
      refine (next_ok _ _ _ _ _ bs.length _ (HS25.out.below (below_dN (Below.refl _ _) n6)) HOB.out HOD.out (congrArg List.length HBS.out).symm).mono ?_
      rintro e w' ⟨rfl, rfl⟩
      go_wp2_with fail
      go_ret
      exact ⟨rfl, below_dN (HB12.out.trans (HB25.out.mono HB12.out.size)) _⟩
    · have hr' : isPt r = false := by simpa using hr
      have HP := Lib.hid hr'
      clear hr hr' h hb
      go_enter Try.func4, Try.ntmps4
      go_wp2_with (go_at_call 8; refine (alive_any _).mono ?_; rintro e w1 ⟨rfl, hb1⟩)
      refine (put_no _ _ _ _ _ HP.out h1 h2).mono ?_
      rintro e w2 ⟨rfl, rfl⟩
      go_wp2_with (go_at_call 12; refine (Is_bool _ false _ HP.out (by omega) (by omega)).mono ?_; rintro e w' ⟨rfl, rfl⟩)
      go_ret
      exact ⟨rfl, hb1⟩
  · go_enter Try.func4, Try.ntmps4
    go_wp2_with (go_at_call 8; refine (alive_any _).mono ?_; rintro e w1 ⟨rfl, hb1⟩)
    go_ret
    exact ⟨rfl, hb1⟩
end Go.Proofs.Ytchepcokcbpmmaa
