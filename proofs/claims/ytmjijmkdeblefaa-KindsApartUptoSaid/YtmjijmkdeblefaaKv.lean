/- sorted: a row of the call's own, its fields put in order, in memory of the call's own. -/
import Derived.Test.YtmjijmkdeblefaaFlat
import Derived.Test.YtmjijmkdeblefaaKpD
namespace Go.Proofs.Ytmjijmkdeblefaa
open Go.RowKit LM
set_option linter.unusedVariables false

theorem ins_perm {α : Type} {lt : α → α → Bool} (x : α) : ∀ l : List α, (ins lt x l).Perm (x :: l)
  | [] => .refl _
  | y :: l => by
    unfold ins
    split
    · exact .refl _
    · exact ((ins_perm x l).cons y).trans (.swap x y l)
theorem srt_perm {α : Type} {lt : α → α → Bool} (l : List α) : (srt lt l).Perm l := by
  have key : ∀ (l acc : List α), (l.foldl (fun acc x => ins lt x acc) acc).Perm (acc ++ l) := by
    intro l
    induction l with
    | nil => intro acc; simp
    | cons x l ih =>
      intro acc
      rw [List.foldl_cons]
      exact (ih _).trans (((ins_perm x acc).append_right l).trans List.perm_middle.symm)
  have h := key l []
  rw [List.nil_append] at h
  exact h
theorem insF_perm (fs : List Fld) : (insF fs).Perm fs := by rw [insF_srt]; exact srt_perm fs

/-- A list of pairs follows the order of its first parts. -/
theorem perm_fst {α β : Type} {ys xs : List α} (h : ys.Perm xs) : ∀ zs : List (α × β), zs.map Prod.fst = xs → ∃ zs' : List (α × β), zs'.Perm zs ∧ zs'.map Prod.fst = ys := by
  induction h with
  | nil => intro zs h; exact ⟨[], by rw [List.map_eq_nil_iff.1 h], rfl⟩
  | cons x _ ih =>
    intro zs h
    obtain ⟨z, zs1, rfl, h1, h2⟩ := List.map_eq_cons_iff.1 h
    obtain ⟨zs', p, e⟩ := ih zs1 h2
    exact ⟨z :: zs', p.cons z, by rw [List.map_cons, e, h1]⟩
  | swap x y l =>
    intro zs h
    obtain ⟨z, zs1, rfl, h1, h2⟩ := List.map_eq_cons_iff.1 h
    obtain ⟨z', zs2, rfl, h3, h4⟩ := List.map_eq_cons_iff.1 h2
    exact ⟨z' :: z :: zs2, .swap z z' zs2, by rw [List.map_cons, List.map_cons, h1, h3, h4]⟩
  | trans _ _ ih1 ih2 =>
    intro zs h
    obtain ⟨z2, p2, e2⟩ := ih2 zs h
    obtain ⟨z1, p1, e1⟩ := ih1 z2 e2
    exact ⟨z1, p1.trans p2, e1⟩

theorem PT.re {w : World} {h : Hd} {k r : Fo} {b o : Nat} {q : Option Addr} {cap : Nat} {F1 F2 : List Nat} (hh : HdAt w b o h q k.len cap) (ho : OwnF w q k F1) (hp : PT PendN w r b (o + 4) [] [] F2) : PT PendN w (.cons h k r) b o [] [] (F1 ++ F2) := by
  refine ⟨[], [], [], [], F1, F2, rfl, rfl, rfl, hp, .inr ⟨q, cap, hh, ?_⟩⟩
  rcases ho with ⟨x1, x2⟩ | ⟨b', F', x1, x2, x3, hk⟩
  · exact .inl ⟨x1, rfl, rfl, x2⟩
  · exact .inr ⟨b', F', x1, x2, x3, hk⟩

/-- What join makes of the call's own trees is a tree of the call's own. -/
theorem JCh.own {w : World} {th : Hd} {tk : Fo} {tq : Option Addr} {tc : Nat} {Ft : List Nat} (ht : OwnF w tq tk Ft) : ∀ (zs : List (Fld × List Nat)) {h : Hd} {k : Fo} {q : Option Addr} {c : Nat} {bs : List Nat}, JCh w th tk tq tc (zs.map Prod.fst) h k q c bs →
    (∀ z ∈ zs, OwnF w z.1.q z.1.k z.2 ∧ z.1.k.len ≤ z.1.cap ∧ z.1.cap ≤ maxLen) → ∃ F, OwnF w q k F ∧ F.Perm (bs ++ (zs.flatMap Prod.snd ++ Ft)) := by
  intro zs
  induction zs with
  | nil =>
    intro h k q c bs hj hz
    cases hj
    exact ⟨Ft, ht, by simp⟩
  | cons z zs ih =>
    intro h k q c bs hj hz
    rw [List.map_cons] at hj
    cases hj with
    | @cons _ _ h k q c bs b next hc hb =>
      obtain ⟨F, hF, hp⟩ := ih next (fun z hz' => hz z (by simp [hz']))
      obtain ⟨o0, l0, m0⟩ := hz z (by simp)
      have cell : ∀ i u, #[Value.int .u8 z.1.h.op, .string z.1.h.name, .int .i64 z.1.h.n, .slice z.1.q z.1.k.len z.1.cap, .int .u8 h.op, .string h.name, .int .i64 h.n, .slice q k.len c][i]? = some u → w.cell? ⟨b, i, none⟩ = some u := by
        intro i u hu
        simp only [World.cell?, hb]
        simpa using hu
      have a0 : HdAt w b 0 z.1.h z.1.q z.1.k.len z.1.cap := ⟨cell 0 _ rfl, cell 1 _ rfl, cell 2 _ rfl, cell 3 _ rfl, l0, m0⟩
      have a1 : HdAt w b (0 + 4) h q k.len c := ⟨cell 4 _ rfl, cell 5 _ rfl, cell 6 _ rfl, cell 7 _ rfl, hc.1, hc.2⟩
      refine ⟨b :: (z.2 ++ (F ++ [])), .inr ⟨b, _, rfl, rfl, ⟨_, hb⟩, PT.re a0 o0 (PT.re a1 hF ⟨rfl, rfl, rfl⟩)⟩, ?_⟩
      rw [List.append_nil, List.cons_append, List.flatMap_cons]
      refine List.Perm.cons b ?_
      refine (hp.append_left z.2).trans ?_
      rw [List.append_assoc z.2]
      generalize zs.flatMap Prod.snd ++ Ft = R
      rw [← List.append_assoc, ← List.append_assoc]
      exact List.perm_append_comm.append_right _

/-- A row with its own fields in order, plainly; a type as it is. -/
def rowS (h : Hd) (k : Fo) : Hd × Fo := rowT (rowF h k).2 (srt (fun a b : ByteArray × Hd × Fo => decide (Lib.compareBytes a.1.data.toList b.1.data.toList < 0)) (rowF h k).1)
theorem insF_keys (fs : List Fld) : (insF fs).map (fun f => (f.name, f.h, f.k)) = srt (fun a b : ByteArray × Hd × Fo => decide (Lib.compareBytes a.1.data.toList b.1.data.toList < 0)) (fs.map fun f => (f.name, f.h, f.k)) := by
  rw [insF_srt]
  exact map_srt (lt' := fun a b : ByteArray × Hd × Fo => decide (Lib.compareBytes a.1.data.toList b.1.data.toList < 0)) (p := fun f : Fld => (f.name, f.h, f.k)) (fun x y => rfl) _

/-- What sorted answers: a tree of blocks of the call's own, and of those of what it was given. -/
def SdPost (w : World) (h : Hd) (k : Fo) (F : List Nat) (e : Ending) (w' : World) : Prop :=
  ∃ q' c' F', e = .returned (.agg #[.int .u8 h.op, .string h.name, .int .i64 h.n, .slice q' k.len c']) ∧ OwnF w' q' k F' ∧ F'.Nodup ∧ (∀ c ∈ F', c ∈ F ∨ (w.heap.size ≤ c ∧ c < w'.heap.size)) ∧ k.len ≤ c' ∧ c' ≤ maxLen ∧ Below w.heap.size w w'

/-- Behind join: its answer is stored, and is a tree of the call's own. -/
theorem sd_end {w w1 w2 : World} {b : Nat} {zs : List (Fld × List Nat)} {gs : List Fld} {th : Hd} {tk : Fo} {tq : Option Addr} {tc : Nat} {Ft F : List Nat} {h' : Hd} {k' : Fo} {q' : Option Addr} {c' : Nat} {bs : List Nat} (hbw : Below w.heap.size w w1) (hb2 : Below w1.heap.size w1 w2)
    (hb : w.heap.size ≤ b) (hbl : b < w1.heap.size) (ht : tk.len ≤ tc ∧ tc ≤ maxLen)
    (hx : (∀ z ∈ zs, OwnF w z.1.q z.1.k z.2 ∧ z.1.k.len ≤ z.1.cap ∧ z.1.cap ≤ maxLen) ∧ (zs.flatMap Prod.snd ++ Ft).Nodup ∧ (∀ c ∈ zs.flatMap Prod.snd ++ Ft, c ∈ F) ∧ (∀ z ∈ zs, ∀ c ∈ z.2, c ∈ F) ∧ OwnF w tq tk Ft ∧ (∀ c ∈ F, c < w.heap.size) ∧ zs.map Prod.fst = gs)
    (hj : JCh w2 th tk tq tc gs h' k' q' c' bs) (hnb : bs.Nodup) (hbs : ∀ x ∈ bs, w1.heap.size ≤ x ∧ x < w2.heap.size) (v0 v1 v2 v3 : Value) :
    SdPost w h' k' F (.returned (.agg #[.int .u8 h'.op, .string h'.name, .int .i64 h'.n, .slice q' k'.len c'])) (World.set4 w2 b v0 v1 v2 v3) := by
  obtain ⟨hz, hnd, hsub, hzF, hft, hF, rfl⟩ := hx
  have hg := set4_grown w2 b v0 v1 v2 v3
  have s1 := hbw.size
  have s2 := hb2.size
  have s3 := hg.size
  have keep : ∀ c ∈ F, (World.set4 w2 b v0 v1 v2 v3).heap[c]? = w.heap[c]? := fun c hc => by
    have h0 := hF c hc
    rw [hg.block c (by omega) (fun e => by have := Option.some.inj e; omega), hb2.block c (by omega), hbw.block c h0]
  have hjW := hj.kept (w' := World.set4 w2 b v0 v1 v2 v3) (fun x hx => hg.block x (hbs x hx).2 (fun e => by have := Option.some.inj e; have := (hbs x hx).1; omega))
  obtain ⟨F', hF', hp⟩ := JCh.own (hft.keep fun c hc => keep c (hsub c (List.mem_append.2 (.inr hc)))) zs hjW (fun z hz' => ⟨(hz z hz').1.keep fun c hc => keep c (hzF z hz' c hc), (hz z hz').2⟩)
  have hcap := hj.cap ht
  refine ⟨q', c', F', rfl, hF', hp.nodup_iff.2 ?_, fun c hc => ?_, hcap.1, hcap.2, ?_⟩
  · rw [List.nodup_append]
    exact ⟨hnb, hnd, fun x hx y hy e => by have := (hbs x hx).1; have := hF y (hsub y hy); omega⟩
  · rcases List.mem_append.1 (hp.mem_iff.1 hc) with h1 | h1
    · exact .inr ⟨by have := (hbs c h1).1; omega, by have := (hbs c h1).2; omega⟩
    · exact .inl (hsub c h1)
  · exact (hbw.trans (hb2.mono s1)).grown hg (by omega) (fun r e => by have := Option.some.inj e; omega)

set_option maxRecDepth 100000 in
set_option maxHeartbeats 2000000 in
theorem sorted_any (h : Hd) (k : Fo) (q : Option Addr) (cap : Nat) (F : List Nat) (w : World) (hr : rowOK h k) (ho : OwnF w q k F) (hn : F.Nodup) (hF : ∀ c ∈ F, c < w.heap.size) (hl : k.len ≤ cap) (hm : cap ≤ maxLen) (hsz : (rowF h k).1.length ≤ 1099511627776) :
    Calls Try.prog 87 #[.agg #[.int .u8 h.op, .string h.name, .int .i64 h.n, .slice q k.len cap]] w (SdPost w (rowS h k).1 (rowS h k).2 F) := by
  obtain ⟨zs, th, tk, tq, tc, Ft, hch, heq, hzs, hft, htl, htm, hnd, hsub⟩ := RowCh.own k h q cap F hr ho hn hl hm
  obtain ⟨fs, hfs⟩ : ∃ fs, fs = zs.map Prod.fst := ⟨_, rfl⟩
  rw [← hfs] at hch heq
  have hlf : fs.length ≤ 1099511627776 := by rw [heq] at hsz; simpa using hsz
  obtain ⟨zs', hperm, hzs'⟩ := perm_fst (insF_perm fs) zs hfs.symm
  have hrs : rowS h k = rowT (th, tk) ((insF fs).map fun f => (f.name, f.h, f.k)) := by rw [insF_keys]; unfold rowS; rw [heq]
  have hli : (insF fs).length = fs.length := length_insF fs
  have hz2 : ∀ z ∈ zs', OwnF w z.1.q z.1.k z.2 ∧ z.1.k.len ≤ z.1.cap ∧ z.1.cap ≤ maxLen := fun z hz => hzs z (hperm.mem_iff.1 hz)
  have hp2 : (zs'.flatMap Prod.snd ++ Ft).Perm (zs.flatMap Prod.snd ++ Ft) := (hperm.flatMap_right _).append_right _
  have hnd2 := hp2.nodup_iff.2 hnd
  have hsub2 : ∀ c ∈ zs'.flatMap Prod.snd ++ Ft, c ∈ F := fun c hc => hsub c (hp2.mem_iff.1 hc)
  have hzF : ∀ z ∈ zs', ∀ c ∈ z.2, c ∈ F := fun z hz c hc => hsub2 c (List.mem_append.2 (.inl (List.mem_flatMap.2 ⟨z, hz, hc⟩)))
  generalize hT : rowS h k = T at *
  generalize hgs : insF fs = gs at *
  have HFL := Lib.hid fun w' (hb : Below w.heap.size w w') => flat_any h k q cap w' fs th tk tq tc (hch.under hb) hlf
  have HX := Lib.hid (And.intro hz2 (And.intro hnd2 (And.intro hsub2 (And.intro hzF (And.intro hft (And.intro hF hzs'))))))
  have HRS := Lib.hid hrs
  have HGS := Lib.hid hgs
  have HT := Lib.hid (And.intro htl htm)
  have HLI := Lib.hid (And.intro hli hlf)
  clear hch heq hzs hft htl htm hnd hsub hfs hperm hz2 hp2 hnd2 hsub2 hzF hrs hgs hli hlf hT ho hn hF hr hsz
  go_enter Try.func87, Try.ntmps87
  go_wp2_with fail
  refine (HFL.out _ ((below_box _ _).alloc (by simp) _)).mono ?_
  rintro e w1 ⟨v, rfl, hown, hb1⟩
  rw [HGS.out, ← HLI.out.1] at hown
  obtain ⟨a, gc, rfl, hfd⟩ := own_fdSl hown
  obtain ⟨hbw, hbox, hres⟩ := two_boxes hb1
  have HJ := Lib.hid (join_any gs a gc th tk tq tc w1 hfd HT.out (by rw [HLI.out.1]; exact HLI.out.2))
  have HBW := Lib.hid hbw
  have HRES := Lib.hid hres
  clear hown hfd hb1 hbox hres hbw
  go_wp2_with fail
  refine HJ.out.mono ?_
  rintro e w2 ⟨h', k', q', c', bs, rfl, hj, hnb, hbs, hb2⟩
  have hres2 := (hb2.block _ (Array.getElem?_eq_some_iff.1 HRES.out).1).trans HRES.out
  obtain ⟨y0, y1, y2, y3, z0, z1, z2, z3⟩ := row4 hres2
  have hTe : T = (h', k') := by rw [HRS.out]; exact hj.eq.symm
  subst hTe
  have HE := Lib.hid (sd_end HBW.out hb2 (by omega) (Array.getElem?_eq_some_iff.1 HRES.out).1 HT.out HX.out hj hnb hbs)
  clear hj hnb hbs hb2 hres2
  go_wp2
  exact bodyPost_ret (v := .agg #[.int .u8 h'.op, .string h'.name, .int .i64 h'.n, .slice q' k'.len c']) (by simp [results, Try.results87, go_sem, y0, y1, y2, y3]) rfl (HE.out _ _ _ _)
end Go.Proofs.Ytmjijmkdeblefaa

/- The canonical form, plainly, and parts that are still to be brought into it. -/
namespace Go.Proofs.Ytmjijmkdeblefaa
open Go.RowKit LM
set_option linter.unusedVariables false

theorem rowF_size : ∀ (k : Fo) (h : Hd), (rowF h k).2.2.size + ((rowF h k).1.map fun x => x.2.2.size + 2).sum ≤ k.size
  | .nil, h => by simp [rowF]
  | .cons h0 k0 .nil, h => by simp [rowF]
  | .cons h0 k0 (.cons h1 k1 r), h => by
    unfold rowF
    split
    · have := rowF_size k1 h1
      simp only [List.map_cons, List.sum_cons, Fo.size]
      omega
    · simp
theorem rowS_size (h : Hd) (k : Fo) : (rowS h k).2.size ≤ k.size := by
  unfold rowS
  rw [rowT_size, ((srt_perm (rowF h k).1).map _).sum_nat]
  exact rowF_size k h

/-- What hangs on a part once its row is sorted. -/
def topS (h : Hd) : Fo → Fo
  | .nil => .nil
  | .cons h0 k0 r => if h.op = 5 ∨ h.op = 6 then .cons (rowS h0 k0).1 (rowS h0 k0).2 r else .cons h0 k0 r
theorem topS_size (h : Hd) (k : Fo) : (topS h k).size ≤ k.size := by
  cases k with
  | nil => exact Nat.le_refl _
  | cons h0 k0 r =>
    simp only [topS]
    split
    · have := rowS_size h0 k0; simp only [Fo.size]; omega
    · exact Nat.le_refl _
theorem topS_len (h : Hd) (k : Fo) : (topS h k).len = k.len := by
  cases k with
  | nil => rfl
  | cons h0 k0 r => simp only [topS]; split <;> rfl

/-- Trees side by side, the rows in each sorted from the root on. -/
def canL : Fo → Fo
  | .nil => .nil
  | .cons h k r => .cons h (canL (topS h k)) (canL r)
termination_by f => f.size
decreasing_by
  all_goals simp only [Fo.size]
  · have := topS_size h k; omega
  · omega
theorem canL_nil : canL .nil = .nil := by rw [canL]
theorem canL_cons (h : Hd) (k r : Fo) : canL (.cons h k r) = .cons h (canL (topS h k)) (canL r) := by rw [canL]
theorem canL_len (f : Fo) : (canL f).len = f.len := by
  induction f with
  | nil => rw [canL_nil]
  | cons h k r _ ih => rw [canL_cons, Fo.len, Fo.len, ih]
theorem canL_size : ∀ (n : Nat) (f : Fo), f.size ≤ n → (canL f).size ≤ f.size
  | 0, .nil, _ => by rw [canL_nil]; exact Nat.le_refl _
  | 0, .cons h k r, hn => by simp [Fo.size] at hn
  | n + 1, .nil, _ => by rw [canL_nil]; exact Nat.le_refl _
  | n + 1, .cons h k r, hn => by
    rw [canL_cons]
    simp only [Fo.size] at hn ⊢
    have h0 := topS_size h k
    have h1 := canL_size n (topS h k) (by omega)
    have h2 := canL_size n r (by omega)
    omega
/-- The canonical form of a tree. -/
def canT (h : Hd) (k : Fo) : Hd × Fo := ((rowS h k).1, canL (topS (rowS h k).1 (rowS h k).2))
theorem canT_size (h : Hd) (k : Fo) : (canT h k).2.size ≤ k.size :=
  Nat.le_trans (canL_size _ _ (Nat.le_refl _)) (Nat.le_trans (topS_size _ _) (rowS_size h k))

/-- A part that is still to come: what hangs on it is the call's own, and its final form is told. -/
def PendK : PendT := fun w b o h kf F => ∃ k q cap, kf = canL (topS h k) ∧ k.size ≤ 1099511627776 ∧ (∃ ks, kidsL h.op = some ks ∧ k.shapes ks = true) ∧ HdAt w b o h q k.len cap ∧ OwnF w q k F
theorem PendK.loc : LocP PendK := fun w w' b o h kf F ⟨k, q, cap, e, hz, hs, hh, ho⟩ hc hF => ⟨k, q, cap, e, hz, hs, hh.cells hc, ho.keep hF⟩

/-- Has a tree the shape of a part of this sort? -/
def sh1 (h : Hd) (k : Fo) (s : Nat) : Bool := (Fo.cons h k .nil).shapes [s]
theorem sh1_kids {h : Hd} {k : Fo} {s : Nat} (hs : sh1 h k s = true) : ∃ ks, kidsL h.op = some ks ∧ sortO h.op = s ∧ headB h = true ∧ k.shapes ks = true := by
  unfold sh1 at hs
  simp only [Fo.shapes, Bool.and_true] at hs
  cases hk : kidsL h.op with
  | none => rw [hk] at hs; cases hs
  | some ks =>
    rw [hk] at hs
    simp only [Bool.and_eq_true, decide_eq_true_eq] at hs
    exact ⟨ks, rfl, hs.1.1, hs.1.2, hs.2⟩
theorem sh1_of {h : Hd} {k : Fo} {s : Nat} {ks : List Nat} (h1 : kidsL h.op = some ks) (h2 : sortO h.op = s) (h3 : headB h = true) (h4 : k.shapes ks = true) : sh1 h k s = true := by
  unfold sh1; simp [Fo.shapes, h1, h2, h3, h4]
theorem shapes_two {h : Hd} {k r : Fo} {s : Nat} {ss : List Nat} : (Fo.cons h k r).shapes (s :: ss) = true ↔ sh1 h k s = true ∧ r.shapes ss = true := by
  rw [shapes_cons, Bool.and_eq_true]; exact Iff.rfl
theorem rowF_sh : ∀ (k : Fo) (h : Hd), sh1 h k 2 = true → (∀ x ∈ (rowF h k).1, wordL x.1.toList = true ∧ sh1 x.2.1 x.2.2 1 = true) ∧ sh1 (rowF h k).2.1 (rowF h k).2.2 2 = true
  | .nil, h, hs => ⟨(by intro x hx; cases hx), hs⟩
  | .cons h0 k0 .nil, h, hs => ⟨(by intro x hx; cases hx), hs⟩
  | .cons h0 k0 (.cons h1 k1 r), h, hs => by
    by_cases hop : h.op = 11
    · rw [rowF, if_pos hop]
      obtain ⟨ks, h1', h2', h3', h4'⟩ := sh1_kids hs
      have e : ks = [1, 2] := by rw [hop] at h1'; exact (Option.some.inj h1').symm
      subst e
      rw [shapes_two, shapes_two] at h4'
      have ih := rowF_sh k1 h1 h4'.2.1
      refine ⟨fun x hx => ?_, ih.2⟩
      rcases List.mem_cons.1 hx with rfl | h5
      · refine ⟨?_, h4'.1⟩
        simp only [headB, if_pos hop, Bool.and_eq_true] at h3'
        exact h3'.1.1
      · exact ih.1 x h5
    · rw [rowF, if_neg hop]
      exact ⟨(by intro x hx; cases hx), hs⟩
theorem rowT_sh {t : Hd × Fo} (ht : sh1 t.1 t.2 2 = true) : ∀ (l : List (ByteArray × Hd × Fo)), (∀ x ∈ l, wordL x.1.toList = true ∧ sh1 x.2.1 x.2.2 1 = true) → sh1 (rowT t l).1 (rowT t l).2 2 = true
  | [], _ => ht
  | (nm, h, k) :: r, hl => by
    have h0 := hl (nm, h, k) (by simp)
    have h1 := rowT_sh ht r (fun x hx => hl x (by simp [hx]))
    refine sh1_of (ks := [1, 2]) rfl rfl ?_ ?_
    · have h00 : wordL nm.toList = true := h0.1
      have : headB ⟨11, nm, 0⟩ = true := by simp [headB, h00]
      exact this
    · simp only [rowT]
      rw [shapes_two, shapes_two]
      exact ⟨h0.2, h1, rfl⟩
theorem rowS_sh {h : Hd} {k : Fo} (hs : sh1 h k 2 = true) : sh1 (rowS h k).1 (rowS h k).2 2 = true := by
  obtain ⟨h1, h2⟩ := rowF_sh k h hs
  exact rowT_sh h2 _ (fun x hx => h1 x ((srt_perm _).mem_iff.1 hx))
theorem topS_sh {h : Hd} {k : Fo} {ks : List Nat} (hk : kidsL h.op = some ks) (hs : k.shapes ks = true) : (topS h k).shapes ks = true := by
  cases k with
  | nil => exact hs
  | cons h0 k0 r =>
    simp only [topS]
    split
    · next hop =>
      have e : ks = [2] := by
        rcases hop with h5 | h5 <;> · rw [h5] at hk; exact (Option.some.inj hk).symm
      subst e
      rw [shapes_two] at hs ⊢
      exact ⟨rowS_sh hs.1, hs.2⟩
    · exact hs

/-- Trees of the call's own, all parts still to come. -/
theorem PT.pendK {w : World} {b : Nat} : ∀ {f : Fo} {o : Nat} {F : List Nat} {ss : List Nat}, PT PendN w f b o [] [] F → f.shapes ss = true → f.size ≤ 1099511627776 → PT PendK w (canL f) b o (kidsP b o f.len) (canL f).toList F
  | .nil, o, F, ss, hp, hs, _ => by
    rw [canL_nil]
    exact ⟨rfl, rfl, hp.2.2⟩
  | .cons h k r, o, F, ss, hp, hs, hz => by
    obtain ⟨q, cap, F1, F2, hh, ho, rfl, hr⟩ := hp.un
    cases ss with
    | nil => simp [Fo.shapes] at hs
    | cons s ss =>
    rw [shapes_two] at hs
    obtain ⟨ks, h1, _, _, h4⟩ := sh1_kids hs.1
    rw [canL_cons]
    exact ⟨[(b, o)], kidsP b (o + 4) r.len, [(h, canL (topS h k))], (canL r).toList, F1, F2, kidsP_succ b o r.len, rfl, rfl, PT.pendK hr hs.2 (by simp only [Fo.size] at hz; omega), .inl ⟨rfl, rfl, k, q, cap, rfl, by simp only [Fo.size] at hz; omega, ⟨ks, h1, h4⟩, hh, ho⟩⟩
end Go.Proofs.Ytmjijmkdeblefaa

/- What canon keeps while the parts are gone through. -/
namespace Go.Proofs.Ytmjijmkdeblefaa
open Go.RowKit LM
set_option linter.unusedVariables false

/-- What canon keeps: blocks from N on are the loop's, D those of them that it may write. -/
structure CanI (w : World) (N : Nat) (h : Hd) (f : Fo) (k : Nat) (st : List Pl) (ts : List (Hd × Fo)) (F : List Nat) (D : Nat → Prop) (W : World) : Prop where
  n : k = (flatL ts).length
  small : k ≤ 1099511627776
  pt : PT PendK W (.cons h f .nil) w.heap.size 0 st ts F
  nd : (w.heap.size :: F).Nodup
  big : ∀ c ∈ F, w.heap.size + 2 ≤ c
  own : ∀ c ∈ F, N ≤ c → D c
  lt : ∀ c ∈ F, c < W.heap.size
  row : RowB W w.heap.size
  res : W.heap[w.heap.size + 1]? = some (.cells #[.int .u8 0, .string ⟨#[]⟩, .int .i64 0, .slice none 0 0] 25 (0, 0))
  below : Below w.heap.size w W
  base : w.heap.size + 2 ≤ N
  room : N ≤ W.heap.size

theorem CanI.kept {w : World} {N : Nat} {h : Hd} {f : Fo} {k : Nat} {st : List Pl} {ts : List (Hd × Fo)} {F : List Nat} {D : Nat → Prop} {X Y : World} {row : Option Nat} (hx : CanI w N h f k st ts F D X) (hg : X.grownBy Y row)
    (hr : ∀ r, row = some r → N ≤ r ∧ ¬ D r) : CanI w N h f k st ts F D Y := by
  have hlt := hx.row.lt
  have hb := hx.base
  have e1 : Y.heap[w.heap.size]? = X.heap[w.heap.size]? := hg.block _ hlt (fun e => by have := (hr _ e.symm).1; omega)
  have hl2 := (Array.getElem?_eq_some_iff.1 hx.res).1
  exact ⟨hx.n, hx.small, hx.pt.keep PendK.loc (fun i _ => cell_same e1 i) (fun c hc => hg.block c (hx.lt c hc) (fun e => (hr c e.symm).2 (hx.own c hc (hr c e.symm).1))), hx.nd, hx.big, hx.own, fun c hc => Nat.lt_of_lt_of_le (hx.lt c hc) hg.size, hx.row.same e1,
    (hg.block _ hl2 (fun e => by have := (hr _ e.symm).1; omega)).trans hx.res, hx.below.grown hg hx.below.size (fun r e => by have := (hr r e).1; omega), hb, Nat.le_trans hx.room hg.size⟩

/-- How a part's Kids go on, once what hangs on it is in its final order. -/
theorem own_vis {w : World} {p : Pl} {h : Hd} {k : Fo} {q : Option Addr} {cap : Nat} {F : List Nat} {ks : List Nat} (hh : HdAt w p.1 p.2 h q k.len cap) (ho : OwnF w q k F) (hs : k.shapes ks = true) (hz : k.size ≤ 1099511627776) :
    ∃ b', (0 < k.len → q = some ⟨b', 0, none⟩) ∧ Vis PendK w p h (canL k) (kidsP b' 0 k.len) (canL k).toList F := by
  rcases ho with ⟨h0, rfl⟩ | ⟨b', F', rfl, rfl, hrow, hp⟩
  · refine ⟨0, fun h1 => by omega, q, cap, by rw [canL_len]; exact hh, .inl ⟨by rw [canL_len]; exact h0, by rw [h0]; rfl, ?_, rfl⟩⟩
    exact List.length_eq_zero_iff.1 (by rw [Fo.length_toList, canL_len]; exact h0)
  · exact ⟨b', fun _ => rfl, _, cap, by rw [canL_len]; exact hh, .inr ⟨b', F', rfl, rfl, hrow, hp.pendK hs hz⟩⟩

/-- A part that needs nothing is come to. -/
theorem CanI.visit {w : World} {N : Nat} {h : Hd} {f : Fo} {k : Nat} {p : Pl} {st : List Pl} {t : Hd × Fo} {ts : List (Hd × Fo)} {F : List Nat} {D : Nat → Prop} {W : World} (hx : CanI w N h f k (p :: st) (t :: ts) F D W) :
    ∃ k0 q cap Fp A B, F = A ++ Fp ++ B ∧ t.2 = canL (topS t.1 k0) ∧ (∃ ks, kidsL t.1.op = some ks ∧ k0.shapes ks = true) ∧ HdAt W p.1 p.2 t.1 q k0.len cap ∧ OwnF W q k0 Fp ∧ ((p.1 = w.heap.size ∧ 0 ≤ p.2) ∨ p.1 ∈ A) ∧ k - 1 < k ∧
      (topS t.1 k0 = k0 → ∃ b', (0 < k0.len → q = some ⟨b', 0, none⟩) ∧ CanI w N h f (k - 1) (kidsP b' 0 k0.len ++ st) ((canL k0).toList ++ ts) F D W) := by
  obtain ⟨Fp, A, B, rfl, ⟨k0, q, cap, ek, hz, ⟨ks, hks, hsh⟩, hh, ho⟩, hpl, hrow, hgo⟩ := hx.pt.step PendK.loc hx.nd
  have hn : k = 1 + t.2.flat.length + (flatL ts).length := by have := hx.n; simp [flatL] at this; omega
  refine ⟨k0, q, cap, Fp, A, B, rfl, ek, ⟨ks, hks, hsh⟩, hh, ho, hpl, by omega, fun ht => ?_⟩
  rw [ht] at ek
  obtain ⟨b', hb', hv⟩ := own_vis (p := p) hh ho hsh hz
  refine ⟨b', hb', ⟨?_, by have := hx.small; omega, ?_, hx.nd, hx.big, hx.own, hx.lt, hx.row, hx.res, hx.below, hx.base, hx.room⟩⟩
  · rw [flatL_append, List.length_append, flatL_toList, ← ek]; omega
  · exact hgo W _ _ _ (fun _ _ => rfl) (fun _ _ _ => rfl) id (by rw [ek]; exact hv)
end Go.Proofs.Ytmjijmkdeblefaa

/- A part whose row is sorted in place: what canon keeps behind it. -/
namespace Go.Proofs.Ytmjijmkdeblefaa
open Go.RowKit LM
set_option linter.unusedVariables false

/-- A part of what there is gives way to what is new, or was in that part. -/
theorem nodup_swap {x b S : Nat} {A B F0 F1 F2 : List Nat} (hn : (x :: (A ++ (b :: (F0 ++ F2)) ++ B)).Nodup) (h1 : F1.Nodup) (hF : ∀ c ∈ F1, c ∈ F0 ∨ S ≤ c) (hlt : ∀ c ∈ x :: (A ++ (b :: (F0 ++ F2)) ++ B), c < S) :
    (x :: (A ++ (b :: (F1 ++ F2)) ++ B)).Nodup := by
  have p : ∀ G : List Nat, (x :: (A ++ (b :: (G ++ F2)) ++ B)).Perm (G ++ (x :: (A ++ (b :: F2) ++ B))) := fun G => by
    rw [List.perm_iff_count]
    intro c
    simp only [List.count_cons, List.count_append]
    omega
  rw [(p F0).nodup_iff, List.nodup_append] at hn
  rw [(p F1).nodup_iff, List.nodup_append]
  refine ⟨h1, hn.2.1, fun c hc d hd e => ?_⟩
  subst e
  rcases hF c hc with h2 | h2
  · exact hn.2.2 c h2 c hd rfl
  · have := hlt c ((p F0).mem_iff.2 (List.mem_append.2 (.inr hd))); omega

theorem CanI.sorted {w : World} {N : Nat} {h : Hd} {f : Fo} {k : Nat} {p : Pl} {st : List Pl} {t : Hd × Fo} {ts : List (Hd × Fo)} {F : List Nat} {D : Nat → Prop} {W w1 : World} {A B F0 F1 F2 : List Nat} {h0 : Hd} {k0 r0 : Fo} {b' cap : Nat} {q0 : Option Addr} {cap0 : Nat} {q1 : Option Addr} {c1 : Nat} {ks : List Nat}
    (hx : CanI w N h f k (p :: st) (t :: ts) F D W) (hF : F = A ++ (b' :: (F0 ++ F2)) ++ B) (ek : t.2 = canL (topS t.1 (.cons h0 k0 r0))) (hop : t.1.op = 5 ∨ t.1.op = 6) (hks : kidsL t.1.op = some ks) (hsh : (Fo.cons h0 k0 r0).shapes ks = true) (hz : (Fo.cons h0 k0 r0).size ≤ 1099511627776)
    (hpl : (p.1 = w.heap.size ∧ 0 ≤ p.2) ∨ p.1 ∈ A) (hh : HdAt W p.1 p.2 t.1 (some ⟨b', 0, none⟩) (Fo.cons h0 k0 r0).len cap) (hrow : RowB W b') (ha : HdAt W b' 0 h0 q0 k0.len cap0) (hr : PT PendN W r0 b' (0 + 4) [] [] F2)
    (hgo : ∀ (w' : World) (kst : List Pl) (kts : List (Hd × Fo)) (F1 : List Nat), (∀ i, i < p.2 ∨ p.2 + 4 ≤ i → w'.cell? ⟨p.1, i, none⟩ = W.cell? ⟨p.1, i, none⟩) →
        (∀ c ∈ w.heap.size :: (A ++ B), c ≠ p.1 → w'.heap[c]? = W.heap[c]?) → (RowB W p.1 → RowB w' p.1) → Vis PendK w' p t.1 t.2 kst kts F1 → PT PendK w' (.cons h f .nil) w.heap.size 0 (kst ++ st) (kts ++ ts) (A ++ F1 ++ B))
    (hb : Below W.heap.size W w1) (ho : OwnF w1 q1 (rowS h0 k0).2 F1) (hnd : F1.Nodup) (hF1 : ∀ c ∈ F1, c ∈ F0 ∨ (W.heap.size ≤ c ∧ c < w1.heap.size)) (hl : (rowS h0 k0).2.len ≤ c1) (hm : c1 ≤ maxLen) {w2 : World}
    (hw2 : w2 = World.setTy w1 (b', 0) (.int .u8 (rowS h0 k0).1.op) (.string (rowS h0 k0).1.name) (.int .i64 (rowS h0 k0).1.n) (.slice q1 (rowS h0 k0).2.len c1)) :
    CanI w N h f (k - 1) (kidsP b' 0 (Fo.cons h0 k0 r0).len ++ st) ((canL (topS t.1 (.cons h0 k0 r0))).toList ++ ts) (A ++ (b' :: (F1 ++ F2)) ++ B) (fun c => D c ∨ (c ∈ F1 ∧ W.heap.size ≤ c)) w2 ∧
      Tch N D (fun c => D c ∨ (c ∈ F1 ∧ W.heap.size ≤ c)) W w2 ∧ (p.1 < N ∨ (D p.1 ∨ (p.1 ∈ F1 ∧ W.heap.size ≤ p.1))) ∧ k - 1 < k ∧ w2.cell? ⟨p.1, p.2 + 3, none⟩ = some (.slice (some ⟨b', 0, none⟩) (Fo.cons h0 k0 r0).len cap) := by
  subst hF
  have hg : w1.grownBy w2 (some b') := by rw [hw2]; exact setTy_grown _ _ _ _ _ _
  have hs1 := hb.size
  have hs2 := hg.size
  have hN := hx.base
  have hR := hx.room
  have hnd0 := hx.nd
  have hbW : b' < W.heap.size := hx.lt b' (by simp)
  have hrlt := hx.row.lt
  have hall : ∀ c ∈ w.heap.size :: (A ++ (b' :: (F0 ++ F2)) ++ B), c < W.heap.size := fun c hc => by
    rcases List.mem_cons.1 hc with rfl | h1
    · exact hrlt
    · exact hx.lt c h1
  have same : ∀ c, c < W.heap.size → c ≠ b' → w2.heap[c]? = W.heap[c]? := fun c hc hne => (hg.block c (by omega) (fun e => hne (Option.some.inj e))).trans (hb.block c hc)
  have hnd2 := nodup_swap hnd0 hnd (fun c hc => (hF1 c hc).imp id (fun h1 => h1.1)) hall
  have ne : ∀ c, c ∈ w.heap.size :: (A ++ B) ∨ c ∈ F0 ∨ c ∈ F2 → c ≠ b' := fun c hc e => by
    subst e
    have p1 : (w.heap.size :: (A ++ (c :: (F0 ++ F2)) ++ B)).Perm (c :: (w.heap.size :: (A ++ (F0 ++ F2) ++ B))) := by
      rw [List.perm_iff_count]; intro d; simp only [List.count_cons, List.count_append]; omega
    rw [p1.nodup_iff, List.nodup_cons] at hnd0
    refine hnd0.1 ?_
    simp only [List.mem_cons, List.mem_append] at hc ⊢
    rcases hc with (h1 | h1 | h1) | h1 | h1 <;> simp [h1]
  have hpA : p.1 ∈ w.heap.size :: (A ++ B) := by
    rcases hpl with h1 | h1
    · simp [h1.1]
    · simp [h1]
  have hpne := ne p.1 (.inl hpA)
  have hplt : p.1 < W.heap.size := hh.lt
  have ep := same p.1 hplt hpne
  have hh2 := hh.same ep
  have eb1 : w1.heap[b']? = W.heap[b']? := hb.block b' hbW
  have ha1 := ha.same eb1
  obtain ⟨d0, d1, d2, d3⟩ := setTy_at (W := w1) (p := (b', 0)) (v0 := .int .u8 (rowS h0 k0).1.op) (v1 := .string (rowS h0 k0).1.name) (v2 := .int .i64 (rowS h0 k0).1.n) (v3 := .slice q1 (rowS h0 k0).2.len c1) ha1.c0 ha1.c1 ha1.c2 ha1.c3
  rw [← hw2] at d0 d1 d2 d3
  have ha2 : HdAt w2 b' 0 (rowS h0 k0).1 q1 (rowS h0 k0).2.len c1 := ⟨d0, d1, d2, d3, hl, hm⟩
  have hF1b : ∀ c ∈ F1, c ≠ b' := fun c hc e => by
    rcases hF1 c hc with h1 | h1
    · exact ne c (.inr (.inl h1)) e
    · omega
  have hF1lt : ∀ c ∈ F1, c < w1.heap.size := fun c hc => by
    rcases hF1 c hc with h1 | h1
    · have := hx.lt c (by simp [h1]); omega
    · exact h1.2
  have ho2 := ho.keep (w' := w2) (fun c hc => hg.block c (hF1lt c hc) (fun e => hF1b c hc (Option.some.inj e)))
  have hr2 : PT PendN w2 r0 b' (0 + 4) [] [] F2 := hr.keep (fun _ _ _ _ _ _ _ h _ _ => h) (fun i hi => by rw [hw2]; exact (setTy_far (p := (b', 0)) (.inr (by simpa using hi))).trans (cell_same eb1 i)) (fun c hc => same c (hx.lt c (by simp [hc])) (ne c (.inr (.inr hc))))
  have hrow2 : RowB w2 b' := by rw [hw2]; exact setTy_rowB _ _ _ _ (hrow.same eb1)
  have etop : topS t.1 (.cons h0 k0 r0) = .cons (rowS h0 k0).1 (rowS h0 k0).2 r0 := by simp only [topS]; rw [if_pos hop]
  have hpt : PT PendN w2 (topS t.1 (.cons h0 k0 r0)) b' 0 [] [] (F1 ++ F2) := by rw [etop]; exact PT.re ha2 ho2 hr2
  have hpk := hpt.pendK (topS_sh hks hsh) (Nat.le_trans (topS_size _ _) hz)
  have hlen : (canL (topS t.1 (.cons h0 k0 r0))).len = (Fo.cons h0 k0 r0).len := by rw [canL_len, topS_len]
  rw [topS_len] at hpk
  have hv : Vis PendK w2 p t.1 t.2 (kidsP b' 0 (Fo.cons h0 k0 r0).len) (canL (topS t.1 (.cons h0 k0 r0))).toList (b' :: (F1 ++ F2)) := by
    rw [ek]
    exact ⟨some ⟨b', 0, none⟩, cap, by rw [hlen]; exact hh2, .inr ⟨b', F1 ++ F2, rfl, rfl, hrow2, hpk⟩⟩
  have hn : k = 1 + t.2.flat.length + (flatL ts).length := by have := hx.n; simp [flatL] at this; omega
  have hD : ∀ c ∈ A ++ (b' :: (F1 ++ F2)) ++ B, c ∈ A ++ (b' :: (F0 ++ F2)) ++ B ∨ (c ∈ F1 ∧ W.heap.size ≤ c) := fun c hc => by
    simp only [List.mem_append, List.mem_cons] at hc ⊢
    rcases hc with (h1 | h1 | h1 | h1) | h1
    · simp [h1]
    · simp [h1]
    · rcases hF1 c h1 with h2 | h2
      · simp [h2]
      · exact .inr ⟨h1, h2.1⟩
    · simp [h1]
    · simp [h1]
  refine ⟨⟨?_, by have := hx.small; omega, hgo w2 _ _ _ (fun i _ => cell_same ep i) (fun c hc hne => same c ?_ (ne c (.inl hc))) (fun h1 => h1.same ep) hv, hnd2, fun c hc => ?_, fun c hc hNc => ?_, fun c hc => ?_, hx.row.same (same _ hrlt ?_), ?_, ?_, hN, by omega⟩, ⟨by omega, fun c hc hlt hd => same c hlt (fun e => ?_), fun c hc => ?_, fun c hc => .inl hc⟩, ?_, by omega, hh2.c3⟩
  · rw [flatL_append, List.length_append, flatL_toList, ← ek]; omega
  · refine hall c ?_
    simp only [List.mem_cons, List.mem_append] at hc ⊢
    rcases hc with h1 | h1 | h1 <;> simp [h1]
  · rcases hD c hc with h1 | h1
    · exact hx.big c h1
    · omega
  · exact (hD c hc).imp (fun h1 => hx.own c h1 hNc) id
  · rcases hD c hc with h1 | h1
    · have := hx.lt c h1; omega
    · have := hF1lt c h1.1; omega
  · exact ne _ (.inl (by simp))
  · have hl2 := (Array.getElem?_eq_some_iff.1 hx.res).1
    exact (same _ hl2 (fun e => by have := hx.big b' (by simp); omega)).trans hx.res
  · exact (hx.below.trans (hb.mono (by omega))).grown hg (by omega) (fun r e => by have := Option.some.inj e; have := hx.big b' (by simp); omega)
  · subst e; exact hd (hx.own c (by simp) hc)
  · rcases hc with h1 | h1
    · exact .inl h1
    · exact .inr ⟨h1.2, by have := hF1lt c h1.1; omega⟩
  · rcases hpl with h1 | h1
    · left; omega
    · by_cases h2 : N ≤ p.1
      · exact .inr (.inl (hx.own p.1 (by simp [h1]) h2))
      · left; omega
end Go.Proofs.Ytmjijmkdeblefaa

/- Where canon's loop begins and ends. -/
namespace Go.Proofs.Ytmjijmkdeblefaa
open Go.RowKit LM
set_option linter.unusedVariables false

theorem CanI.start {w W : World} {N : Nat} {h : Hd} {k0 : Fo} {q : Option Addr} {cap : Nat} {F : List Nat} {ks : List Nat} (hs : kidsL h.op = some ks) (hk : k0.shapes ks = true) (hsz : 1 + k0.size ≤ 1099511627776) (hh : HdAt W w.heap.size 0 h q k0.len cap) (ho : OwnF W q k0 F) (hn : F.Nodup)
    (hF : ∀ c ∈ F, w.heap.size + 2 ≤ c ∧ c < N) (hrow : RowB W w.heap.size) (hres : W.heap[w.heap.size + 1]? = some (.cells #[.int .u8 0, .string ⟨#[]⟩, .int .i64 0, .slice none 0 0] 25 (0, 0))) (hb : Below w.heap.size w W) (hN : w.heap.size + 2 ≤ N) (hW : N ≤ W.heap.size) :
    CanI w N h (canL (topS h k0)) (1 + (canL (topS h k0)).size) [(w.heap.size, 0)] [(h, canL (topS h k0))] F (fun _ => False) W := by
  have hz : (canL (topS h k0)).size ≤ k0.size := Nat.le_trans (canL_size _ _ (Nat.le_refl _)) (topS_size _ _)
  refine ⟨(length_one h _).symm, by omega, ⟨[(w.heap.size, 0)], [], [(h, canL (topS h k0))], [], F, [], rfl, rfl, by simp, ⟨rfl, rfl, rfl⟩, .inl ⟨rfl, rfl, k0, q, cap, rfl, by omega, ⟨ks, hs, hk⟩, hh, ho⟩⟩, ?_, fun c hc => (hF c hc).1, fun c hc h1 => ?_, fun c hc => by have := (hF c hc).2; omega, hrow, hres, hb, hN, hW⟩
  · exact List.nodup_cons.2 ⟨fun hc => by have := (hF _ hc).1; omega, hn⟩
  · have := (hF c hc).2; omega

theorem CanI.fin {w W : World} {N : Nat} {h : Hd} {f : Fo} {k : Nat} {ts : List (Hd × Fo)} {F : List Nat} {D : Nat → Prop} (hx : CanI w N h f k [] ts F D W) : ∃ q cap, HdAt W w.heap.size 0 h q f.len cap ∧ OwnF W q f F ∧ F.Nodup := by
  have hp := hx.pt
  have hts : ts = [] := List.length_eq_zero_iff.1 hp.stlen.symm
  subst hts
  obtain ⟨s1, s2, t1, t2, G1, G2, f1, f2, f3, hr, hc⟩ := hp
  obtain ⟨rfl, rfl⟩ := List.append_eq_nil_iff.1 f1.symm
  obtain ⟨rfl, rfl⟩ := List.append_eq_nil_iff.1 f2.symm
  obtain ⟨_, _, rfl⟩ := hr
  rcases hc with ⟨x1, _⟩ | ⟨q', cap', hhd, hk⟩
  · cases x1
  refine ⟨q', cap', hhd, ?_, (List.nodup_cons.1 hx.nd).2⟩
  rcases hk with ⟨x1, _, _, x4⟩ | ⟨b', F', x1, x2, x3, hk⟩
  · exact .inl ⟨x1, by rw [f3, x4]; rfl⟩
  · exact .inr ⟨b', F', x1, by rw [f3, x2]; simp, x3, hk.any⟩
end Go.Proofs.Ytmjijmkdeblefaa

/- canon. -/
namespace Go.Proofs.Ytmjijmkdeblefaa
open Go.RowKit Go.Shelf LM
set_option linter.unusedVariables false
attribute [local go_sem] Oper.semAt_some

set_option maxRecDepth 100000 in
set_option maxHeartbeats 4000000 in
theorem canon_any (h : Hd) (k : Fo) (q : Option Addr) (cap : Nat) (w : World) (s : Nat) (hh : h.ok) (hf : SlF w q cap k) (hok : k.ok) (hsz : 1 + k.size ≤ 1099511627776) (hr : rowOK h k) (hsh : sh1 (rowS h k).1 (rowS h k).2 s = true) :
    Calls Try.prog 55 #[.agg #[.int .u8 h.op, .string h.name, .int .i64 h.n, .slice q k.len cap]] w (CopPost w (canT h k).1 (canT h k).2) := by
  refine (callsIn_wide (n := 9)).1 ?_
  have HC := Lib.hid fun w' (hb : Below w.heap.size w w') => copied_any h k q cap w' hh (hf.below hb) hok hsz
  have hlen : (rowF h k).1.length ≤ 1099511627776 := by
    have h1 := rowF_size k h
    have h2 : ∀ l : List (ByteArray × Hd × Fo), l.length ≤ (l.map fun x => x.2.2.size + 2).sum := by
      intro l
      induction l with
      | nil => simp
      | cons x l ih => simp only [List.length_cons, List.map_cons, List.sum_cons]; omega
    have := h2 (rowF h k).1
    omega
  have HSD := Lib.hid fun q' c' F w' ho hn hF hl hm => sorted_any h k q' c' F w' hr ho hn hF hl hm hlen
  have HP := Lib.hid parts_any
  have hz := rowS_size h k
  have HSZ : Hid (1 + (rowS h k).2.size ≤ 1099511627776) := Lib.hid (by omega)
  have HSH := Lib.hid hsh
  have e1 := World.alloc_heap_new w (.cells #[.int .u8 h.op, .string h.name, .int .i64 h.n, .slice q k.len cap] 25)
  have e2 := World.alloc_heap_new (w.alloc (.cells #[.int .u8 h.op, .string h.name, .int .i64 h.n, .slice q k.len cap] 25)) (.cells #[.int .u8 0, .string ⟨#[]⟩, .int .i64 0, .slice none 0 0] 25)
  obtain ⟨W0, hW0⟩ : ∃ W0, W0 = (w.alloc (.cells #[.int .u8 h.op, .string h.name, .int .i64 h.n, .slice q k.len cap] 25)).alloc (.cells #[.int .u8 0, .string ⟨#[]⟩, .int .i64 0, .slice none 0 0] 25) := ⟨_, rfl⟩
  have hB0 : Hid (Below w.heap.size w W0 ∧ W0.heap.size = w.heap.size + 2) := Lib.hid (by rw [hW0]; exact ⟨(below_box _ _).alloc (by simp) _, by simp⟩)
  have hbx : Hid (W0.heap[w.heap.size]? = some (.cells #[.int .u8 h.op, .string h.name, .int .i64 h.n, .slice q k.len cap] 25 (0, 0)) ∧ W0.heap[w.heap.size + 1]? = some (.cells #[.int .u8 0, .string ⟨#[]⟩, .int .i64 0, .slice none 0 0] 25 (0, 0))) := by
    rw [hW0]
    rw [World.size_alloc] at e2
    exact Lib.hid ⟨((below_box _ _).block _ (by simp)).trans e1, e2⟩
  have HW0 := Lib.hid hW0
  clear e1 e2 hW0 hf hsh hlen hr hok hz hsz
  generalize hT : rowS h k = T at *
  have hcT : canT h k = (T.1, canL (topS T.1 T.2)) := by unfold canT; rw [hT]
  rw [hcT]
  clear hT hcT
  refine callsIn_of_wp_marks Try.func55 rfl trivial ?_ rfl
  simp only [Try.ntmps55, List.size_toArray, List.length_cons, List.length_nil, Nat.reduceAdd, Nat.reduceSub, Array.replicate_succ, Array.replicate_zero, List.push_toArray, List.append_toArray, List.nil_append, List.cons_append]
  gi_wp2_with fail
  rw [← HW0.out]
  refine ⟨trivial, ?_⟩
  refine (callsIn_wide.2 (HC.out _ hB0.out.1)).mono ?_
  rintro e w1 ⟨q1, c1, F1, rfl, hl1, hm1, hown1, hnd1, hF1, hb1⟩
  have HSD1 := Lib.hid (HSD.out q1 c1 F1 w1 hown1 hnd1 (fun c hc => (hF1 c hc).2) hl1 hm1)
  have HF1 := Lib.hid hF1
  have HB1 := Lib.hid hb1
  clear hF1 hb1 hown1 hnd1
  gi_wp2_with fail
  refine ⟨trivial, ?_⟩
  refine (callsIn_wide.2 HSD1.out).mono ?_
  rintro e w2 ⟨q2, c2, F2, rfl, hown2, hnd2, hF2, hl2, hm2, hb2⟩
  have hs1 := HB1.out.size
  have hs2 := hb2.size
  have hw0 := hB0.out.2
  have hx2 := (hb2.block w.heap.size (by omega)).trans ((HB1.out.block w.heap.size (by omega)).trans hbx.out.1)
  have hy2 := (hb2.block (w.heap.size + 1) (by omega)).trans ((HB1.out.block (w.heap.size + 1) (by omega)).trans hbx.out.2)
  obtain ⟨x0, x1, x2, x3, z0, z1, z2, z3⟩ := row4 hx2
  have HX2 := Lib.hid hx2
  have HY2 := Lib.hid hy2
  have HB2 := Lib.hid hb2
  have HO2 := Lib.hid hown2
  have HF2 := Lib.hid hF2
  have hbb : Hid (Below w.heap.size w w2) := Lib.hid (hB0.out.1.trans ((HB1.out.trans (hb2.mono (by omega))).mono (by omega)))
  clear hx2 hy2 hb2 hown2 hF2
  have hs3 : (World.set4 w2 w.heap.size (.int .u8 T.1.op) (.string T.1.name) (.int .i64 T.1.n) (.slice q2 T.2.len c2)).heap.size = w2.heap.size := by simp [World.set4]
  have hg3 := set4_grown w2 w.heap.size (.int .u8 T.1.op) (.string T.1.name) (.int .i64 T.1.n) (.slice q2 T.2.len c2)
  have hx3 := set4_row HX2.out (.int .u8 T.1.op) (.string T.1.name) (.int .i64 T.1.n) (.slice q2 T.2.len c2)
  have hrng : ∀ c ∈ F2, w.heap.size + 2 ≤ c ∧ c < w2.heap.size := fun c hc => by
    rcases HF2.out c hc with h1 | h1
    · have := HF1.out c h1; omega
    · omega
  gi_wp2_with fail
  refine ⟨trivial, ?_⟩
  obtain ⟨w3, hw3⟩ : ∃ w3, w3 = World.set4 w2 w.heap.size (.int .u8 T.1.op) (.string T.1.name) (.int .i64 T.1.n) (.slice q2 T.2.len c2) := ⟨_, rfl⟩
  rw [← hw3] at hs3 hg3 hx3
  change CallsIn _ _ _ _ _ (World.set4 w2 w.heap.size (.int .u8 T.1.op) (.string T.1.name) (.int .i64 T.1.n) (.slice q2 T.2.len c2)) _
  rw [← hw3]
  clear hw3
  refine (callsIn_wide.2 (HP.out _ _)).mono ?_
  rintro e w4 ⟨rfl, rfl⟩
  rw [hs3]
  have hown3 := HO2.out.keep (w' := w3.alloc (.cells #[.pointer (some ⟨w.heap.size, 0, none⟩)] 64)) (fun c hc => (Below.heap_alloc _ _ _ (by have := (hrng c hc).2; omega)).trans (hg3.block c (hrng c hc).2 (fun e => by have := Option.some.inj e; have := (hrng c hc).1; omega)))
  have hx4 : (w3.alloc (.cells #[.pointer (some ⟨w.heap.size, 0, none⟩)] 64)).heap[w.heap.size]? = some (.cells #[.int .u8 T.1.op, .string T.1.name, .int .i64 T.1.n, .slice q2 T.2.len c2] 25 (0, 0)) := (Below.heap_alloc _ _ _ (by omega)).trans hx3
  have hy4 : (w3.alloc (.cells #[.pointer (some ⟨w.heap.size, 0, none⟩)] 64)).heap[w.heap.size + 1]? = some (.cells #[.int .u8 0, .string ⟨#[]⟩, .int .i64 0, .slice none 0 0] 25 (0, 0)) := (Below.heap_alloc _ _ _ (by omega)).trans ((hg3.block _ (by omega) (fun e => by have := Option.some.inj e; omega)).trans HY2.out)
  have hb4 : Below w.heap.size w (w3.alloc (.cells #[.pointer (some ⟨w.heap.size, 0, none⟩)] 64)) := (hbb.out.grown hg3 (by omega) (fun r e => by have := Option.some.inj e; omega)).alloc (by omega) _
  obtain ⟨ks, hks, _, _, hshk⟩ := sh1_kids HSH.out
  have HS := Lib.hid (CanI.start (N := w3.heap.size + 1) hks hshk HSZ.out (cap := c2) ⟨by simp [World.cell?, hx4], by simp [World.cell?, hx4], by simp [World.cell?, hx4], by simp [World.cell?, hx4], hl2, hm2⟩ hown3 hnd2 (fun c hc => ⟨(hrng c hc).1, by have := (hrng c hc).2; omega⟩) ⟨_, hx4⟩ hy4 hb4 (by omega) (by simp))
  have HK1 := Lib.hid (Boxed.new w3 64 (.pointer (some ⟨w.heap.size, 0, none⟩)))
  have HZ3 := Lib.hid hs3
  have hNw : w.heap.size + 2 ≤ w3.heap.size := by omega
  clear hown3 hx4 hy4 hb4 hx3 hg3 hrng x0 x1 x2 x3 z0 z1 z2 z3
  generalize hf : canL (topS T.1 T.2) = f at *
  clear hf
  gi_wp2_with fail
  rw [← HZ3.out]
  refine range_parts rfl (by omega) (Bn := w3.heap.size) rfl trivial (w.heap.size, 0) ?c1 rfl
    (fun k st D W => ∃ ts F, CanI w (w3.heap.size + 1) T.1 f k st ts F D W) (fun _ _ _ => False) ?hI (fun _ _ _ _ _ hx _ _ => hx.elim) (1 + f.size) ?c2
    (fun p => { tmps := #[.agg #[.int .u8 h.op, .string h.name, .int .i64 h.n, .slice q k.len cap], .pointer (some ⟨w.heap.size, 0, none⟩), .pointer (some ⟨w.heap.size + 1, 0, none⟩), .pointer (some ⟨p.1, p.2, none⟩),
      .agg #[.int .u8 h.op, .string h.name, .int .i64 h.n, .slice q k.len cap], .agg #[.int .u8 h.op, .string h.name, .int .i64 h.n, .slice q1 k.len c1], .agg #[.int .u8 T.1.op, .string T.1.name, .int .i64 T.1.n, .slice q2 T.2.len c2],
      .func (.func 88) #[] #[.pointer (some ⟨w2.heap.size, 0, none⟩)], .pointer (some ⟨p.1, p.2, none⟩), undef, undef, undef, undef, undef, undef, undef, undef, undef, undef, undef, undef, undef, undef, undef, undef, undef, undef, undef, undef, undef, undef, undef, undef, undef], defers := [] }) ?assign ?body ?done ?stop
  case assign =>
    intro l p W K hK
    gi_wp2
    exact hK
  case c1 => exact HK1.out.cell
  case hI =>
    rintro k st D X Y row ⟨ts, F, hx⟩ hg hr
    exact ⟨ts, F, hx.kept hg (fun r e => by have := hr r e; simpa using this)⟩
  case c2 => exact ⟨_, _, HS.out⟩
  case stop =>
    rintro K c D W _ _ hx _
    exact hx.elim
  case done =>
    rintro K k D W hK hDK ⟨ts, F, hx⟩ hKd
    obtain ⟨q', cap', hhd, hown, hnd⟩ := hx.fin
    have c0 := hhd.c0
    have c1 := hhd.c1
    have c2 := hhd.c2
    have c3 := hhd.c3
    obtain ⟨r0, r1, r2, r3, z0, z1, z2, z3⟩ := row4 hx.res
    have HX := Lib.hid hx
    have HO := Lib.hid hown
    have HHD := Lib.hid hhd
    clear hx hown hhd
    simp only [World.size_alloc] at hK
    gi_wp2
    have hg := set4_grown W (w.heap.size + 1) (.int .u8 T.1.op) (.string T.1.name) (.int .i64 T.1.n) (.slice q' f.len cap')
    have hrow := set4_row HX.out.res (.int .u8 T.1.op) (.string T.1.name) (.int .i64 T.1.n) (.slice q' f.len cap')
    have hne : K ≠ w.heap.size + 1 := by omega
    have hKd' := (hg.block K (Array.getElem?_eq_some_iff.1 hKd).1 (by intro e; exact hne (Option.some.inj e))).trans hKd
    refine ⟨by simp, .inl ⟨_, _, rfl, run_takeDeferred hKd', ?_⟩⟩
    have hg2 := grownBy_putObj' (World.set4 W (w.heap.size + 1) (.int .u8 T.1.op) (.string T.1.name) (.int .i64 T.1.n) (.slice q' f.len cap')) K (.deferred none)
    have hrow2 := (hg2.block _ (Array.getElem?_eq_some_iff.1 hrow).1 (by intro e; exact hne (Option.some.inj e).symm)).trans hrow
    refine ⟨_, results_cell_row rfl _ _ _ _ _ _ (.struct _) rfl hrow2 Try.underlying25 rfl (by kernel_rfl), ?_⟩
    have hKne : ∀ c ∈ F, c ≠ K := fun c hc e => by
      subst e
      exact hDK (HX.out.own c hc (by omega))
    have hFk : ∀ c ∈ F, ((World.set4 W (w.heap.size + 1) (.int .u8 T.1.op) (.string T.1.name) (.int .i64 T.1.n) (.slice q' f.len cap')).putObj K (.deferred none)).heap[c]? = W.heap[c]? := fun c hc =>
      (hg2.block c (by have := hg.size; have := HX.out.lt c hc; omega) (by intro e; exact hKne c hc (Option.some.inj e))).trans (hg.block c (HX.out.lt c hc) (by intro e; have := Option.some.inj e; have := HX.out.big c hc; omega))
    refine ⟨q', cap', F, rfl, HHD.out.lc, HHD.out.cm, HO.out.keep hFk, hnd, fun c hc => ⟨by have := HX.out.big c hc; omega, ?_⟩, ?_⟩
    · exact Nat.lt_of_lt_of_le (HX.out.lt c hc) (Nat.le_trans hg.size hg2.size)
    · exact (HX.out.below.grown hg HX.out.below.size (fun r e => by cases e; omega)).grown hg2 (Nat.le_trans HX.out.below.size hg.size) (fun r e => by cases e; omega)
  case body =>
    rintro l k1 p st D W hW hD ⟨ts, F, hx⟩
    cases ts with
    | nil => have := hx.pt.stlen; simp at this
    | cons t ts =>
    obtain ⟨Fp, A, B, hF, ⟨k0, q0, cap0, ek, hz, ⟨ks, hks, hsh⟩, hh, ho⟩, hpl, hrow, hgo⟩ := hx.pt.step PendK.loc hx.nd
    have c0 := hh.c0
    have c3 := hh.c3
    have hst : st.length = ts.length := by have := hx.pt.stlen; simpa using this
    have hIx : Hid (CanI w (w3.heap.size + 1) T.1 f k1 (p :: st) (t :: ts) F D W) := Lib.hid hx
    obtain ⟨th, tk⟩ := t
    obtain ⟨top, tn, tm⟩ := th
    by_cases hop : top = 5 ∨ top = 6
    · have e2 : ks = [2] := by
        rcases hop with h5 | h5 <;> · simp only [h5] at hks; exact (Option.some.inj hks).symm
      subst e2
      cases k0 with
      | nil => simp [Fo.shapes] at hsh
      | cons h0 kk0 r0 =>
      have hsh2 := (shapes_two.1 hsh).1
      rcases ho with ⟨x1, _⟩ | ⟨b', F', rfl, rfl, hrb, hp⟩
      · simp [Fo.len] at x1
      obtain ⟨qa, capa, F0, F2', ha, hoa, rfl, hr⟩ := hp.un
      have hrl : hp = hp := rfl
      have hnF : F0.Nodup ∧ b' ∉ w.heap.size :: A := by
        have hn := hx.nd
        rw [hF] at hn
        refine ⟨?_, fun hc => ?_⟩
        · have p1 : (w.heap.size :: (A ++ (b' :: (F0 ++ F2')) ++ B)).Perm (F0 ++ (w.heap.size :: (A ++ (b' :: F2') ++ B))) := by
            rw [List.perm_iff_count]; intro d; simp only [List.count_cons, List.count_append]; omega
          rw [p1.nodup_iff, List.nodup_append] at hn
          exact hn.1
        · have p1 : (w.heap.size :: (A ++ (b' :: (F0 ++ F2')) ++ B)).Perm (b' :: (w.heap.size :: (A ++ (F0 ++ F2') ++ B))) := by
            rw [List.perm_iff_count]; intro d; simp only [List.count_cons, List.count_append]; omega
          rw [p1.nodup_iff, List.nodup_cons] at hn
          refine hn.1 ?_
          rcases List.mem_cons.1 hc with h1 | h1 <;> simp [h1]
      have hlenF : (rowF h0 kk0).1.length ≤ 1099511627776 := by
        have h1 := rowF_size kk0 h0
        have h2 : ∀ l : List (ByteArray × Hd × Fo), l.length ≤ (l.map fun x => x.2.2.size + 2).sum := by
          intro l
          induction l with
          | nil => simp
          | cons x l ih => simp only [List.length_cons, List.map_cons, List.sum_cons]; omega
        have h3 := h2 (rowF h0 kk0).1
        simp only [Fo.size] at hz
        omega
      have HCL := Lib.hid (sorted_any h0 kk0 qa capa F0 W.drew (shapes_rowOK kk0 h0 hsh2) (hoa.keep fun _ _ => rfl) hnF.1 (fun c hc => hx.lt c (by rw [hF]; simp [hc])) ha.lc ha.cm hlenF)
      have HFIN : Hid (∀ qs cs Fs v1, OwnF v1 qs (rowS h0 kk0).2 Fs → Fs.Nodup → (∀ c ∈ Fs, c ∈ F0 ∨ (W.drew.heap.size ≤ c ∧ c < v1.heap.size)) → (rowS h0 kk0).2.len ≤ cs → cs ≤ maxLen → Below W.drew.heap.size W.drew v1 →
          v1.cell? ⟨p.1, p.2 + 3, none⟩ = some (.slice (some ⟨b', 0, none⟩) (Fo.cons h0 kk0 r0).len cap0) ∧ v1.cell? ⟨b', 0, none⟩ = some (.int .u8 h0.op) ∧ v1.cell? ⟨b', 1, none⟩ = some (.string h0.name) ∧ v1.cell? ⟨b', 2, none⟩ = some (.int .i64 h0.n) ∧ v1.cell? ⟨b', 3, none⟩ = some (.slice qa kk0.len capa) ∧
          v1.frozen? ⟨b', 0, none⟩ = false ∧ v1.frozen? ⟨b', 1, none⟩ = false ∧ v1.frozen? ⟨b', 2, none⟩ = false ∧ v1.frozen? ⟨b', 3, none⟩ = false ∧
          Next (w3.heap.size + 1) k1 p st (fun k st D W => ∃ ts F, CanI w (w3.heap.size + 1) T.1 f k st ts F D W) D W (World.setTy v1 (b', 0) (.int .u8 (rowS h0 kk0).1.op) (.string (rowS h0 kk0).1.name) (.int .i64 (rowS h0 kk0).1.n) (.slice qs (rowS h0 kk0).2.len cs))) := by
        refine Lib.hid fun qs cs Fs v1 hos hns hFs hls hms hbs => ?_
        have hbW : Below W.heap.size W v1 := ((Below.refl _ _).drew).trans hbs
        have hb'lt : b' < W.heap.size := hx.lt b' (by rw [hF]; simp)
        have eb := hbW.block b' hb'lt
        have a1 := ha.same eb
        have r1 := hrb.same eb
        have hh1 := hh.same (hbW.block p.1 hh.lt)
        obtain ⟨i1, i2, i3, i4, i5⟩ := CanI.sorted hx hF ek hop hks hsh hz hpl hh hrb ha hr hgo hbW hos hns hFs hls hms rfl
        refine ⟨hh1.c3, a1.c0, a1.c1, a1.c2, a1.c3, r1.frozen 0, r1.frozen 1, r1.frozen 2, r1.frozen 3, k1 - 1, _, b', 0, _, cap0, _, i4, i5, fun _ => rfl, hh.lc, ?_, ⟨_, _, i1⟩, i2, i3⟩
        have h2 : (kidsP b' 0 (Fo.cons h0 kk0 r0).len ++ st).length ≤ k1 - 1 := by rw [i1.pt.stlen, i1.n]; exact flatL_len _
        have h4 := i1.small
        rw [List.length_append, length_kidsP] at h2
        omega
      have d0 := ha.c0
      have d1 : W.cell? ⟨b', 1, none⟩ = _ := ha.c1
      have d2 : W.cell? ⟨b', 2, none⟩ = _ := ha.c2
      have d3 : W.cell? ⟨b', 3, none⟩ = _ := ha.c3
      have hL0 : 0 < (Fo.cons h0 kk0 r0).len := by simp [Fo.len]
      have hLm : (Fo.cons h0 kk0 r0).len ≤ cap0 ∧ cap0 ≤ maxLen := ⟨hh.lc, hh.cm⟩
      clear hh hoa hgo hrow hpl hF ek hx hr hp ha hnF hlenF hrb hsh hsh2 hrl hz hks hst
      generalize (Fo.cons h0 kk0 r0).len = L at *
      generalize rowS h0 kk0 = S at *
      simp only at c0
      rcases hop with rfl | rfl
      · gi_wp2
        refine region_round rfl (by kernel_rfl) (noDefer_spec (by kernel_rfl)) ?_
        refine wpAnyIn_take (i := 0) (v := ?_) rfl rfl (by kernel_rfl) (by kernel_rfl) (by kernel_rfl) (fun _ _ _ h => h) ⟨Or.inl ⟨by rfl, ?_⟩, fun _ => rfl⟩ ?_
        rotate_left
        · (intro w; go_simp; try with_reducible rfl)
        refine wpAnyIn_take (i := 1) (v := ?_) rfl rfl (by kernel_rfl) (by kernel_rfl) (by kernel_rfl) (fun _ _ _ h => h) ⟨Or.inl ⟨by rfl, ?_⟩, fun _ => rfl⟩ ?_
        rotate_left
        · (intro w; go_simp; try with_reducible rfl)
        refine wpAnyIn_take (i := 2) (v := ?_) rfl rfl (by kernel_rfl) (by kernel_rfl) (by kernel_rfl) (fun _ _ _ h => h) ⟨Or.inl ⟨by rfl, ?_⟩, fun _ => rfl⟩ ?_
        rotate_left
        · (intro w; go_simp; try with_reducible rfl)
        refine wpAnyIn_take (i := 4) (v := ?_) rfl rfl (by kernel_rfl) (by kernel_rfl) (by kernel_rfl) (fun _ _ _ h => h) ⟨Or.inl ⟨by rfl, ?_⟩, fun _ => rfl⟩ ?_
        rotate_left
        · (intro w; go_simp; try with_reducible rfl)
        refine wpAnyIn_take (i := 5) (v := ?_) rfl rfl (by kernel_rfl) (by kernel_rfl) (by kernel_rfl) (fun _ _ _ h => h) ⟨Or.inl ⟨by rfl, ?_⟩, fun _ => rfl⟩ ?_
        rotate_left
        · (intro w; go_simp; try with_reducible rfl)
        refine wpAnyIn_take (i := 6) (v := ?_) rfl rfl (by kernel_rfl) (by kernel_rfl) (by kernel_rfl) (fun _ _ _ h => h) ⟨Or.inl ⟨by rfl, ?_⟩, fun _ => rfl⟩ ?_
        rotate_left
        · (intro w; go_simp; try with_reducible rfl)
        refine wpAnyIn_ready (rs := [3, 7]) (by kernel_rfl) (by simp) ?_
        refine AllReadyIn.cons rfl (fun K hK => ?_) ?_
        · go_simp
          refine hK _ _ ?_
          clear hK K
          refine wpAnyIn_ready (rs := [7]) (by kernel_rfl) (by simp) ?_
          refine AllReadyIn.cons rfl (fun K hK => ?_) ?_
          · go_simp
            refine hK _ _ ?_
            clear hK K
            refine wpAnyIn_take (i := 8) (v := ?_) rfl rfl (by kernel_rfl) (by kernel_rfl) (by kernel_rfl) (fun _ _ _ h => h) ⟨Or.inl ⟨by rfl, ?_⟩, fun _ => rfl⟩ ?_
            rotate_left
            · (intro w; go_simp; try with_reducible rfl)
            refine wpAnyIn_ready (rs := [9]) (by kernel_rfl) (by simp) ?_
            refine AllReadyIn.cons rfl (fun K hK => ?_) ?_
            · go_simp
              refine hK _ _ ?_
              clear hK K
              refine wpAnyIn_ready (rs := [10]) (by kernel_rfl) (by simp) ?_
              refine AllReadyIn.cons rfl (fun K hK => ?_) ?_
              · go_simp
                refine ⟨trivial, ?_⟩
                refine (callsIn_wide.2 HCL.out).mono ?_
                rintro e v1 ⟨qs, cs, Fs, rfl, hos, hns, hFs, hls, hms, hbs⟩
                obtain ⟨m0, m1, m2, m3, m4, y0, y1, y2, y3, hfin⟩ := HFIN.out qs cs Fs v1 hos hns hFs hls hms hbs
                clear hos hns hFs hls hms hbs
                refine hK _ _ ?_
                clear hK K
                refine wpAnyIn_take (i := 11) (v := ?_) rfl rfl (by kernel_rfl) (by kernel_rfl) (by kernel_rfl) (fun _ _ _ h => h) ⟨Or.inl ⟨by rfl, ?_⟩, fun _ => rfl⟩ ?_
                rotate_left
                · (intro w; go_simp; try with_reducible rfl)
                refine wpAnyIn_ready (rs := [12]) (by kernel_rfl) (by simp) ?_
                refine AllReadyIn.cons rfl (fun K hK => ?_) ?_
                · go_simp
                  refine hK _ _ ?_
                  clear hK K
                  refine wpAnyIn_done (by kernel_rfl) ?_ _
                  gi_wp2
                  simp only [World.size_alloc]
                  exact hfin
                exact AllReadyIn.nil
              exact AllReadyIn.nil
            exact AllReadyIn.nil
          exact AllReadyIn.nil
        refine AllReadyIn.cons rfl (fun K hK => ?_) ?_
        · go_simp
          refine hK _ _ ?_
          clear hK K
          refine wpAnyIn_take (i := 8) (v := ?_) rfl rfl (by kernel_rfl) (by kernel_rfl) (by kernel_rfl) (fun _ _ _ h => h) ⟨Or.inl ⟨by rfl, ?_⟩, fun _ => rfl⟩ ?_
          rotate_left
          · (intro w; go_simp; try with_reducible rfl)
          refine wpAnyIn_ready (rs := [3, 9]) (by kernel_rfl) (by simp) ?_
          refine AllReadyIn.cons rfl (fun K hK => ?_) ?_
          · go_simp
            refine hK _ _ ?_
            clear hK K
            refine wpAnyIn_ready (rs := [9]) (by kernel_rfl) (by simp) ?_
            refine AllReadyIn.cons rfl (fun K hK => ?_) ?_
            · go_simp
              refine hK _ _ ?_
              clear hK K
              refine wpAnyIn_ready (rs := [10]) (by kernel_rfl) (by simp) ?_
              refine AllReadyIn.cons rfl (fun K hK => ?_) ?_
              · go_simp
                refine ⟨trivial, ?_⟩
                refine (callsIn_wide.2 HCL.out).mono ?_
                rintro e v1 ⟨qs, cs, Fs, rfl, hos, hns, hFs, hls, hms, hbs⟩
                obtain ⟨m0, m1, m2, m3, m4, y0, y1, y2, y3, hfin⟩ := HFIN.out qs cs Fs v1 hos hns hFs hls hms hbs
                clear hos hns hFs hls hms hbs
                refine hK _ _ ?_
                clear hK K
                refine wpAnyIn_take (i := 11) (v := ?_) rfl rfl (by kernel_rfl) (by kernel_rfl) (by kernel_rfl) (fun _ _ _ h => h) ⟨Or.inl ⟨by rfl, ?_⟩, fun _ => rfl⟩ ?_
                rotate_left
                · (intro w; go_simp; try with_reducible rfl)
                refine wpAnyIn_ready (rs := [12]) (by kernel_rfl) (by simp) ?_
                refine AllReadyIn.cons rfl (fun K hK => ?_) ?_
                · go_simp
                  refine hK _ _ ?_
                  clear hK K
                  refine wpAnyIn_done (by kernel_rfl) ?_ _
                  gi_wp2
                  simp only [World.size_alloc]
                  exact hfin
                exact AllReadyIn.nil
              exact AllReadyIn.nil
            exact AllReadyIn.nil
          refine AllReadyIn.cons rfl (fun K hK => ?_) ?_
          · go_simp
            refine hK _ _ ?_
            clear hK K
            refine wpAnyIn_ready (rs := [3, 10]) (by kernel_rfl) (by simp) ?_
            refine AllReadyIn.cons rfl (fun K hK => ?_) ?_
            · go_simp
              refine hK _ _ ?_
              clear hK K
              refine wpAnyIn_ready (rs := [10]) (by kernel_rfl) (by simp) ?_
              refine AllReadyIn.cons rfl (fun K hK => ?_) ?_
              · go_simp
                refine ⟨trivial, ?_⟩
                refine (callsIn_wide.2 HCL.out).mono ?_
                rintro e v1 ⟨qs, cs, Fs, rfl, hos, hns, hFs, hls, hms, hbs⟩
                obtain ⟨m0, m1, m2, m3, m4, y0, y1, y2, y3, hfin⟩ := HFIN.out qs cs Fs v1 hos hns hFs hls hms hbs
                clear hos hns hFs hls hms hbs
                refine hK _ _ ?_
                clear hK K
                refine wpAnyIn_take (i := 11) (v := ?_) rfl rfl (by kernel_rfl) (by kernel_rfl) (by kernel_rfl) (fun _ _ _ h => h) ⟨Or.inl ⟨by rfl, ?_⟩, fun _ => rfl⟩ ?_
                rotate_left
                · (intro w; go_simp; try with_reducible rfl)
                refine wpAnyIn_ready (rs := [12]) (by kernel_rfl) (by simp) ?_
                refine AllReadyIn.cons rfl (fun K hK => ?_) ?_
                · go_simp
                  refine hK _ _ ?_
                  clear hK K
                  refine wpAnyIn_done (by kernel_rfl) ?_ _
                  gi_wp2
                  simp only [World.size_alloc]
                  exact hfin
                exact AllReadyIn.nil
              exact AllReadyIn.nil
            refine AllReadyIn.cons rfl (fun K hK => ?_) ?_
            · go_simp
              refine ⟨trivial, ?_⟩
              refine (callsIn_wide.2 HCL.out).mono ?_
              rintro e v1 ⟨qs, cs, Fs, rfl, hos, hns, hFs, hls, hms, hbs⟩
              obtain ⟨m0, m1, m2, m3, m4, y0, y1, y2, y3, hfin⟩ := HFIN.out qs cs Fs v1 hos hns hFs hls hms hbs
              clear hos hns hFs hls hms hbs
              refine hK _ _ ?_
              clear hK K
              refine wpAnyIn_ready (rs := [3]) (by kernel_rfl) (by simp) ?_
              refine AllReadyIn.cons rfl (fun K hK => ?_) ?_
              · go_simp
                refine hK _ _ ?_
                clear hK K
                refine wpAnyIn_take (i := 11) (v := ?_) rfl rfl (by kernel_rfl) (by kernel_rfl) (by kernel_rfl) (fun _ _ _ h => h) ⟨Or.inl ⟨by rfl, ?_⟩, fun _ => rfl⟩ ?_
                rotate_left
                · (intro w; go_simp; try with_reducible rfl)
                refine wpAnyIn_ready (rs := [12]) (by kernel_rfl) (by simp) ?_
                refine AllReadyIn.cons rfl (fun K hK => ?_) ?_
                · go_simp
                  refine hK _ _ ?_
                  clear hK K
                  refine wpAnyIn_done (by kernel_rfl) ?_ _
                  gi_wp2
                  simp only [World.size_alloc]
                  exact hfin
                exact AllReadyIn.nil
              exact AllReadyIn.nil
            exact AllReadyIn.nil
          exact AllReadyIn.nil
        exact AllReadyIn.nil
      · gi_wp2
        refine region_round rfl (by kernel_rfl) (noDefer_spec (by kernel_rfl)) ?_
        refine wpAnyIn_take (i := 0) (v := ?_) rfl rfl (by kernel_rfl) (by kernel_rfl) (by kernel_rfl) (fun _ _ _ h => h) ⟨Or.inl ⟨by rfl, ?_⟩, fun _ => rfl⟩ ?_
        rotate_left
        · (intro w; go_simp; try with_reducible rfl)
        refine wpAnyIn_take (i := 1) (v := ?_) rfl rfl (by kernel_rfl) (by kernel_rfl) (by kernel_rfl) (fun _ _ _ h => h) ⟨Or.inl ⟨by rfl, ?_⟩, fun _ => rfl⟩ ?_
        rotate_left
        · (intro w; go_simp; try with_reducible rfl)
        refine wpAnyIn_take (i := 2) (v := ?_) rfl rfl (by kernel_rfl) (by kernel_rfl) (by kernel_rfl) (fun _ _ _ h => h) ⟨Or.inl ⟨by rfl, ?_⟩, fun _ => rfl⟩ ?_
        rotate_left
        · (intro w; go_simp; try with_reducible rfl)
        refine wpAnyIn_take (i := 4) (v := ?_) rfl rfl (by kernel_rfl) (by kernel_rfl) (by kernel_rfl) (fun _ _ _ h => h) ⟨Or.inl ⟨by rfl, ?_⟩, fun _ => rfl⟩ ?_
        rotate_left
        · (intro w; go_simp; try with_reducible rfl)
        refine wpAnyIn_take (i := 5) (v := ?_) rfl rfl (by kernel_rfl) (by kernel_rfl) (by kernel_rfl) (fun _ _ _ h => h) ⟨Or.inl ⟨by rfl, ?_⟩, fun _ => rfl⟩ ?_
        rotate_left
        · (intro w; go_simp; try with_reducible rfl)
        refine wpAnyIn_take (i := 6) (v := ?_) rfl rfl (by kernel_rfl) (by kernel_rfl) (by kernel_rfl) (fun _ _ _ h => h) ⟨Or.inl ⟨by rfl, ?_⟩, fun _ => rfl⟩ ?_
        rotate_left
        · (intro w; go_simp; try with_reducible rfl)
        refine wpAnyIn_ready (rs := [3, 7]) (by kernel_rfl) (by simp) ?_
        refine AllReadyIn.cons rfl (fun K hK => ?_) ?_
        · go_simp
          refine hK _ _ ?_
          clear hK K
          refine wpAnyIn_ready (rs := [7]) (by kernel_rfl) (by simp) ?_
          refine AllReadyIn.cons rfl (fun K hK => ?_) ?_
          · go_simp
            refine hK _ _ ?_
            clear hK K
            refine wpAnyIn_take (i := 8) (v := ?_) rfl rfl (by kernel_rfl) (by kernel_rfl) (by kernel_rfl) (fun _ _ _ h => h) ⟨Or.inl ⟨by rfl, ?_⟩, fun _ => rfl⟩ ?_
            rotate_left
            · (intro w; go_simp; try with_reducible rfl)
            refine wpAnyIn_ready (rs := [9]) (by kernel_rfl) (by simp) ?_
            refine AllReadyIn.cons rfl (fun K hK => ?_) ?_
            · go_simp
              refine hK _ _ ?_
              clear hK K
              refine wpAnyIn_ready (rs := [10]) (by kernel_rfl) (by simp) ?_
              refine AllReadyIn.cons rfl (fun K hK => ?_) ?_
              · go_simp
                refine ⟨trivial, ?_⟩
                refine (callsIn_wide.2 HCL.out).mono ?_
                rintro e v1 ⟨qs, cs, Fs, rfl, hos, hns, hFs, hls, hms, hbs⟩
                obtain ⟨m0, m1, m2, m3, m4, y0, y1, y2, y3, hfin⟩ := HFIN.out qs cs Fs v1 hos hns hFs hls hms hbs
                clear hos hns hFs hls hms hbs
                refine hK _ _ ?_
                clear hK K
                refine wpAnyIn_take (i := 11) (v := ?_) rfl rfl (by kernel_rfl) (by kernel_rfl) (by kernel_rfl) (fun _ _ _ h => h) ⟨Or.inl ⟨by rfl, ?_⟩, fun _ => rfl⟩ ?_
                rotate_left
                · (intro w; go_simp; try with_reducible rfl)
                refine wpAnyIn_ready (rs := [12]) (by kernel_rfl) (by simp) ?_
                refine AllReadyIn.cons rfl (fun K hK => ?_) ?_
                · go_simp
                  refine hK _ _ ?_
                  clear hK K
                  refine wpAnyIn_done (by kernel_rfl) ?_ _
                  gi_wp2
                  simp only [World.size_alloc]
                  exact hfin
                exact AllReadyIn.nil
              exact AllReadyIn.nil
            exact AllReadyIn.nil
          exact AllReadyIn.nil
        refine AllReadyIn.cons rfl (fun K hK => ?_) ?_
        · go_simp
          refine hK _ _ ?_
          clear hK K
          refine wpAnyIn_take (i := 8) (v := ?_) rfl rfl (by kernel_rfl) (by kernel_rfl) (by kernel_rfl) (fun _ _ _ h => h) ⟨Or.inl ⟨by rfl, ?_⟩, fun _ => rfl⟩ ?_
          rotate_left
          · (intro w; go_simp; try with_reducible rfl)
          refine wpAnyIn_ready (rs := [3, 9]) (by kernel_rfl) (by simp) ?_
          refine AllReadyIn.cons rfl (fun K hK => ?_) ?_
          · go_simp
            refine hK _ _ ?_
            clear hK K
            refine wpAnyIn_ready (rs := [9]) (by kernel_rfl) (by simp) ?_
            refine AllReadyIn.cons rfl (fun K hK => ?_) ?_
            · go_simp
              refine hK _ _ ?_
              clear hK K
              refine wpAnyIn_ready (rs := [10]) (by kernel_rfl) (by simp) ?_
              refine AllReadyIn.cons rfl (fun K hK => ?_) ?_
              · go_simp
                refine ⟨trivial, ?_⟩
                refine (callsIn_wide.2 HCL.out).mono ?_
                rintro e v1 ⟨qs, cs, Fs, rfl, hos, hns, hFs, hls, hms, hbs⟩
                obtain ⟨m0, m1, m2, m3, m4, y0, y1, y2, y3, hfin⟩ := HFIN.out qs cs Fs v1 hos hns hFs hls hms hbs
                clear hos hns hFs hls hms hbs
                refine hK _ _ ?_
                clear hK K
                refine wpAnyIn_take (i := 11) (v := ?_) rfl rfl (by kernel_rfl) (by kernel_rfl) (by kernel_rfl) (fun _ _ _ h => h) ⟨Or.inl ⟨by rfl, ?_⟩, fun _ => rfl⟩ ?_
                rotate_left
                · (intro w; go_simp; try with_reducible rfl)
                refine wpAnyIn_ready (rs := [12]) (by kernel_rfl) (by simp) ?_
                refine AllReadyIn.cons rfl (fun K hK => ?_) ?_
                · go_simp
                  refine hK _ _ ?_
                  clear hK K
                  refine wpAnyIn_done (by kernel_rfl) ?_ _
                  gi_wp2
                  simp only [World.size_alloc]
                  exact hfin
                exact AllReadyIn.nil
              exact AllReadyIn.nil
            exact AllReadyIn.nil
          refine AllReadyIn.cons rfl (fun K hK => ?_) ?_
          · go_simp
            refine hK _ _ ?_
            clear hK K
            refine wpAnyIn_ready (rs := [3, 10]) (by kernel_rfl) (by simp) ?_
            refine AllReadyIn.cons rfl (fun K hK => ?_) ?_
            · go_simp
              refine hK _ _ ?_
              clear hK K
              refine wpAnyIn_ready (rs := [10]) (by kernel_rfl) (by simp) ?_
              refine AllReadyIn.cons rfl (fun K hK => ?_) ?_
              · go_simp
                refine ⟨trivial, ?_⟩
                refine (callsIn_wide.2 HCL.out).mono ?_
                rintro e v1 ⟨qs, cs, Fs, rfl, hos, hns, hFs, hls, hms, hbs⟩
                obtain ⟨m0, m1, m2, m3, m4, y0, y1, y2, y3, hfin⟩ := HFIN.out qs cs Fs v1 hos hns hFs hls hms hbs
                clear hos hns hFs hls hms hbs
                refine hK _ _ ?_
                clear hK K
                refine wpAnyIn_take (i := 11) (v := ?_) rfl rfl (by kernel_rfl) (by kernel_rfl) (by kernel_rfl) (fun _ _ _ h => h) ⟨Or.inl ⟨by rfl, ?_⟩, fun _ => rfl⟩ ?_
                rotate_left
                · (intro w; go_simp; try with_reducible rfl)
                refine wpAnyIn_ready (rs := [12]) (by kernel_rfl) (by simp) ?_
                refine AllReadyIn.cons rfl (fun K hK => ?_) ?_
                · go_simp
                  refine hK _ _ ?_
                  clear hK K
                  refine wpAnyIn_done (by kernel_rfl) ?_ _
                  gi_wp2
                  simp only [World.size_alloc]
                  exact hfin
                exact AllReadyIn.nil
              exact AllReadyIn.nil
            refine AllReadyIn.cons rfl (fun K hK => ?_) ?_
            · go_simp
              refine ⟨trivial, ?_⟩
              refine (callsIn_wide.2 HCL.out).mono ?_
              rintro e v1 ⟨qs, cs, Fs, rfl, hos, hns, hFs, hls, hms, hbs⟩
              obtain ⟨m0, m1, m2, m3, m4, y0, y1, y2, y3, hfin⟩ := HFIN.out qs cs Fs v1 hos hns hFs hls hms hbs
              clear hos hns hFs hls hms hbs
              refine hK _ _ ?_
              clear hK K
              refine wpAnyIn_ready (rs := [3]) (by kernel_rfl) (by simp) ?_
              refine AllReadyIn.cons rfl (fun K hK => ?_) ?_
              · go_simp
                refine hK _ _ ?_
                clear hK K
                refine wpAnyIn_take (i := 11) (v := ?_) rfl rfl (by kernel_rfl) (by kernel_rfl) (by kernel_rfl) (fun _ _ _ h => h) ⟨Or.inl ⟨by rfl, ?_⟩, fun _ => rfl⟩ ?_
                rotate_left
                · (intro w; go_simp; try with_reducible rfl)
                refine wpAnyIn_ready (rs := [12]) (by kernel_rfl) (by simp) ?_
                refine AllReadyIn.cons rfl (fun K hK => ?_) ?_
                · go_simp
                  refine hK _ _ ?_
                  clear hK K
                  refine wpAnyIn_done (by kernel_rfl) ?_ _
                  gi_wp2
                  simp only [World.size_alloc]
                  exact hfin
                exact AllReadyIn.nil
              exact AllReadyIn.nil
            exact AllReadyIn.nil
          exact AllReadyIn.nil
        exact AllReadyIn.nil
    · have htop : topS ⟨top, tn, tm⟩ k0 = k0 := by
        cases k0 with
        | nil => rfl
        | cons h0 kk0 r0 => simp only [topS]; rw [if_neg hop]
      have hfin : Next (w3.heap.size + 1) k1 p st (fun k st D W => ∃ ts F, CanI w (w3.heap.size + 1) T.1 f k st ts F D W) D W W := by
        simp only at ek
        rw [htop] at ek
        obtain ⟨b', hb', hv⟩ := own_vis (p := p) hh ho hsh hz
        have hn : k1 = 1 + tk.flat.length + (flatL ts).length := by have := hx.n; simp [flatL] at this; omega
        have i1 : CanI w (w3.heap.size + 1) T.1 f (k1 - 1) (kidsP b' 0 k0.len ++ st) ((canL k0).toList ++ ts) F D W := by
          refine ⟨?_, by have := hx.small; omega, ?_, hx.nd, hx.big, hx.own, hx.lt, hx.row, hx.res, hx.below, hx.base, hx.room⟩
          · rw [flatL_append, List.length_append, flatL_toList, ← ek]; omega
          · have := hgo W _ _ _ (fun _ _ => rfl) (fun _ _ _ => rfl) id (by rw [ek]; exact hv)
            rw [hF]; exact this
        refine ⟨k1 - 1, _, b', 0, _, cap0, D, by omega, hh.c3, hb', hh.lc, ?_, ⟨_, _, i1⟩, Tch.refl _ _ _, ?_⟩
        · have h2 : (kidsP b' 0 k0.len ++ st).length ≤ k1 - 1 := by rw [i1.pt.stlen, i1.n]; exact flatL_len _
          have h4 := i1.small
          rw [List.length_append, length_kidsP] at h2
          omega
        · have hN := hx.base
          rcases hpl with h1 | h1
          · left; omega
          · by_cases h2 : w3.heap.size + 1 ≤ p.1
            · exact .inr (hx.own p.1 (by rw [hF]; simp [h1]) h2)
            · left; omega
      have h5 : (top == 5) = false := by simpa using fun h => hop (.inl h)
      have h6 : (top == 6) = false := by simpa using fun h => hop (.inr h)
      clear hh ho hgo hrow hpl hF ek hx hz hks hsh hst
      simp only at c0
      gi_wp2

      simp only [World.size_alloc]
      exact hfin
end Go.Proofs.Ytmjijmkdeblefaa

/- Canon. -/
namespace Go.Proofs.Ytmjijmkdeblefaa
open Go.RowKit LM
set_option linter.unusedVariables false

theorem rowF_type {h : Hd} (hop : h.op ≠ 11) : ∀ k : Fo, rowF h k = ([], (h, k))
  | .nil => rfl
  | .cons _ _ .nil => rfl
  | .cons _ _ (.cons _ _ _) => by rw [rowF, if_neg hop]
theorem rowS_type {h : Hd} (hop : h.op ≠ 11) (k : Fo) : rowS h k = (h, k) := by unfold rowS; rw [rowF_type hop]; rfl
theorem rowOK_type {h : Hd} (hop : h.op ≠ 11) : ∀ k : Fo, rowOK h k
  | .nil => hop
  | .cons _ _ .nil => hop
  | .cons _ _ (.cons _ _ _) => fun e => (hop e).elim
theorem sh1_right {h : Hd} {k : Fo} {s : Nat} (hr : rightB h k s = true) : sh1 h k s = true := by
  unfold rightB at hr
  exact (Bool.and_eq_true_iff.1 hr).1
/-- What is right, type or row, can be brought into its canonical form. -/
theorem can_of {h : Hd} {k : Fo} (hr : rightB h k 1 = true ∨ rightB h k 2 = true) : rowOK h k ∧ ∃ s, sh1 (rowS h k).1 (rowS h k).2 s = true := by
  rcases hr with h1 | h1
  · have h2 := sh1_right h1
    have hop : h.op ≠ 11 := fun e => by
      obtain ⟨_, _, h3, _⟩ := sh1_kids h2
      rw [e] at h3
      cases h3
    exact ⟨rowOK_type hop k, 1, by rw [rowS_type hop]; exact h2⟩
  · exact ⟨right_rowOK h1, 2, rowS_sh (sh1_right h1)⟩

set_option maxRecDepth 100000 in
theorem Canon_yes (h : Hd) (k : Fo) (q : Option Addr) (cap : Nat) (w : World) (hh : h.ok) (hs : SlF w q cap k) (hok : k.ok) (hsz : 1 + k.size ≤ 1099511627776) (hr : riB h k = true) :
    Calls Try.prog 11 #[.agg #[.int .u8 h.op, .string h.name, .int .i64 h.n, .slice q k.len cap]] w (TrPost w (canT h k).1 (canT h k).2) := by
  have HR : Hid (∀ w', Below w.heap.size w w' → Calls Try.prog 54 #[.agg #[.int .u8 h.op, .string h.name, .int .i64 h.n, .slice q k.len cap]] w' fun e w'' => e = .returned (.bool true) ∧ Below w'.heap.size w' w'') :=
    Lib.hid fun w' hb => by rw [← hr]; exact right_any h k q cap w' hh (hs.below hb) hok hsz
  have hr' : rightB h k 1 = true ∨ rightB h k 2 = true := by unfold riB at hr; simpa using hr
  obtain ⟨hro, s, hsh⟩ := can_of hr'
  have HC := Lib.hid fun w' (hb : Below w.heap.size w w') => canon_any h k q cap w' s hh (hs.below hb) hok hsz hro hsh
  clear hs hr hr' hro hsh hh hok hsz
  generalize canT h k = T at *
  go_enter Try.func11, Try.ntmps11
  go_wp2_with fail
  refine (HR.out _ ((below_box _ _).alloc (by simp) _)).mono ?_
  rintro e w1 ⟨rfl, hb1⟩
  obtain ⟨hbw, hbox, hres⟩ := two_boxes hb1
  obtain ⟨x0, x1, x2, x3, _⟩ := row4 hbox
  have HBW := Lib.hid hbw
  have HRES := Lib.hid hres
  clear hb1 hbox hres hbw
  go_wp2_with fail
  refine (HC.out _ HBW.out).mono ?_
  rintro e w2 ⟨q', cap', F, rfl, h1, h2, hown, hnd, hF, hb⟩
  have hres2 := (hb.block _ (Array.getElem?_eq_some_iff.1 HRES.out).1).trans HRES.out
  obtain ⟨y0, y1, y2, y3, z0, z1, z2, z3⟩ := row4 hres2
  have HE := Lib.hid (store_end (b := w.heap.size + 1) HBW.out hb (by omega) (Array.getElem?_eq_some_iff.1 HRES.out).1 hown hF h1 h2 (.int .u8 T.1.op) (.string T.1.name) (.int .i64 T.1.n) (.slice q' T.2.len cap'))
  clear hown hF hb hnd hres2
  go_wp2
  exact bodyPost_ret (v := .agg #[.int .u8 T.1.op, .string T.1.name, .int .i64 T.1.n, .slice q' T.2.len cap']) (by simp [results, Try.results11, go_sem, y0, y1, y2, y3]) rfl ⟨_, _, rfl, HE.out.1, HE.out.2⟩

set_option maxRecDepth 100000 in
theorem Canon_no (h : Hd) (k : Fo) (q : Option Addr) (cap : Nat) (w : World) (hh : h.ok) (hs : SlF w q cap k) (hok : k.ok) (hsz : 1 + k.size ≤ 1099511627776) (hr : riB h k = false) :
    Calls Try.prog 11 #[.agg #[.int .u8 h.op, .string h.name, .int .i64 h.n, .slice q k.len cap]] w fun e w' => e = .returned (.agg #[.int .u8 0, .string ⟨#[]⟩, .int .i64 0, .slice none 0 0]) ∧ Below w.heap.size w w' := by
  have HR : Hid (∀ w', Below w.heap.size w w' → Calls Try.prog 54 #[.agg #[.int .u8 h.op, .string h.name, .int .i64 h.n, .slice q k.len cap]] w' fun e w'' => e = .returned (.bool false) ∧ Below w'.heap.size w' w'') :=
    Lib.hid fun w' hb => by rw [← hr]; exact right_any h k q cap w' hh (hs.below hb) hok hsz
  clear hs hr hh hok hsz
  go_enter Try.func11, Try.ntmps11
  go_wp2_with fail
  refine (HR.out _ ((below_box _ _).alloc (by simp) _)).mono ?_
  rintro e w1 ⟨rfl, hb1⟩
  obtain ⟨hbw, hbox, hres⟩ := two_boxes hb1
  obtain ⟨y0, y1, y2, y3, z0, z1, z2, z3⟩ := row4 hres
  have HBW := Lib.hid hbw
  have HRES := Lib.hid hres
  clear hb1 hbox hres hbw
  go_wp2
  have hg := set4_grown w1 (w.heap.size + 1) (.int .u8 0) (.string ⟨#[]⟩) (.int .i64 0) (.slice none 0 0)
  exact bodyPost_ret (v := .agg #[.int .u8 0, .string ⟨#[]⟩, .int .i64 0, .slice none 0 0]) (by simp [results, Try.results11, go_sem, y0, y1, y2, y3]) rfl ⟨rfl, HBW.out.grown hg HBW.out.size (fun r e => by have := Option.some.inj e; omega)⟩
end Go.Proofs.Ytmjijmkdeblefaa
