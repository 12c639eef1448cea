/- Flat, Put: what they give is their own. -/
import Derived.Test.YtmjijmkdeblefaaKs
import Derived.Test.YtmjijmkdeblefaaKdQ
import Derived.Test.YtmjijmkdeblefaaKtA
import Derived.Test.YtmjijmkdeblefaaKpG
import Derived.Test.YtmjijmkdeblefaaKzB
namespace Go.Proofs.Ytmjijmkdeblefaa
open Go.RowKit LM
set_option linter.unusedVariables false

/-- Flat's fields and tail: each has blocks of its own. -/
def FlatO (w : World) (h : Hd) (k : Fo) (e : Ending) (w' : World) : Prop :=
  ∃ v, ∃ zs : List (Fld × List Nat), ∃ th tk tq tc Ft, e = .returned (.tuple #[v, .agg #[.int .u8 th.op, .string th.name, .int .i64 th.n, .slice tq tk.len tc]]) ∧ w'.ownsRow w.heap.size 40 5 v zs.length (fldCells (insF (zs.map Prod.fst))) ∧
    rowF h k = ((zs.map Prod.fst).map fun f => (f.name, f.h, f.k), (th, tk)) ∧ (∀ z ∈ zs, OwnF w' z.1.q z.1.k z.2 ∧ z.1.k.len ≤ z.1.cap ∧ z.1.cap ≤ maxLen) ∧ OwnF w' tq tk Ft ∧ tk.len ≤ tc ∧ tc ≤ maxLen ∧
    (zs.flatMap Prod.snd ++ Ft).Nodup ∧ (∀ c ∈ zs.flatMap Prod.snd ++ Ft, w.heap.size ≤ c ∧ c < w'.heap.size ∧ v.ownBlock ≠ some c) ∧ Below w.heap.size w w'

set_option maxRecDepth 100000 in
theorem Flat_own (h : Hd) (k : Fo) (q : Option Addr) (cap : Nat) (w : World) (hh : h.ok) (hf : SlF w q cap k) (hok : k.ok) (hsz : 1 + k.size ≤ 1099511627776) (hr : rightB h k 2 = true) :
    Calls Try.prog 30 #[.agg #[.int .u8 h.op, .string h.name, .int .i64 h.n, .slice q k.len cap]] w (FlatO w h k) := by
  have HR := Lib.hid fun w' hb => Row_any h k q cap w' hh (hf.below (w := w) hb) hok hsz
  have HC := Lib.hid fun w' hb => copied_any h k q cap w' hh (hf.below (w := w) hb) hok hsz
  rw [hr] at HR
  have HO := Lib.hid (right_rowOK hr)
  clear hf hr
  go_enter Try.func30, Try.ntmps30
  go_wp2_with (go_at_call 71; refine (HR.out _ (((Below.refl _ _).alloc (Nat.le_refl _) _).alloc (by simp) _)).mono ?_; rintro e w1 ⟨rfl, hb1⟩; have hw1 := two_boxes hb1; clear hb1; obtain ⟨x0, x1, x2, x3, _⟩ := row4 hw1.2.1; have HW1 := Lib.hid hw1; clear hw1)
  refine (HC.out _ HW1.out.1).mono ?_
  rintro e w2 ⟨q', cap', F, rfl, hcp1, hcp2, hown, hnd, hF, hb2⟩
  obtain ⟨zs, th, tk, tq, tc, Ft, hch, heq, hzs, hft, htl, htm, hznd, hsub⟩ := RowCh.own k h q' cap' F HO.out hown hnd hcp1 hcp2
  have HZS := Lib.hid hzs
  have HFT := Lib.hid hft
  have HSUB := Lib.hid hsub
  have HF := Lib.hid hF
  clear hzs hft hsub
  obtain ⟨fs, hfs⟩ : ∃ fs, fs = zs.map Prod.fst := ⟨_, rfl⟩
  rw [← hfs] at hch heq
  have HFS := Lib.hid hfs
  clear hfs
  have hfl : fs.length ≤ 1099511627776 := by have := hch.len; omega
  have HCH := Lib.hid hch
  have HEQ := Lib.hid heq
  have HB2 := Lib.hid hb2
  clear hown hnd hF hch heq hb2
  go_wp2_with fail
  refine (flat_any h k q' cap' w2 fs th tk tq tc HCH.out hfl).mono ?_
  rintro e w3 ⟨v, rfl, hown3, hb3⟩
  have hres := (((HB2.out.trans (hb3.mono HB2.out.size)).block _ (by have := (Array.getElem?_eq_some_iff.1 HW1.out.2.2).1; omega)).trans HW1.out.2.2)
  obtain ⟨y0, y1, y2, y3, z0, z1, z2, z3⟩ := row4 hres
  have HRES := Lib.hid hres
  have HO3 := Lib.hid hown3
  have HB3 := Lib.hid hb3
  clear hres hown3 hb3
  go_wp2
  have hg := set4_grown w3 (w.heap.size + 1) (.int .u8 th.op) (.string th.name) (.int .i64 th.n) (.slice tq tk.len tc)
  have hb03 : Below w.heap.size w w3 := HW1.out.1.trans ((HB2.out.mono HW1.out.1.size).trans (HB3.out.mono (Nat.le_trans HW1.out.1.size HB2.out.size)))
  have hsz1 := (Array.getElem?_eq_some_iff.1 HW1.out.2.2).1
  have hsz2 := HB2.out.size
  have hblk : ∀ c ∈ F, (World.set4 w3 (w.heap.size + 1) (.int .u8 th.op) (.string th.name) (.int .i64 th.n) (.slice tq tk.len tc)).heap[c]? = w2.heap[c]? := fun c hc => by
    have h1 := HF.out c hc
    exact (hg.block c (by have := HB3.out.size; omega) (by intro e; have := Option.some.inj e; omega)).trans (HB3.out.block c h1.2)
  have hmf : ∀ z ∈ zs, OwnF (World.set4 w3 (w.heap.size + 1) (.int .u8 th.op) (.string th.name) (.int .i64 th.n) (.slice tq tk.len tc)) z.1.q z.1.k z.2 ∧ z.1.k.len ≤ z.1.cap ∧ z.1.cap ≤ maxLen := by
    intro z hz
    obtain ⟨z1, z2, z3⟩ := HZS.out z hz
    exact ⟨z1.keep (fun c hc => hblk c (HSUB.out c (List.mem_append_left _ (List.mem_flatMap.2 ⟨z, hz, hc⟩)))), z2, z3⟩
  have hmt := HFT.out.keep (fun c hc => hblk c (HSUB.out c (List.mem_append_right _ hc)))
  have hlt2 : ∀ c, v.ownBlock = some c → w2.heap.size ≤ c := fun c hc => (HO3.out.lt c hc).1
  refine bodyPost_ret (v := .tuple #[v, .agg #[.int .u8 th.op, .string th.name, .int .i64 th.n, .slice tq tk.len tc]]) (by simp [results, Try.results30, go_sem, y0, y1, y2, y3]) rfl ⟨v, zs, th, tk, tq, tc, Ft, rfl, ?_, by rw [HEQ.out, HFS.out], hmf, hmt, htl, htm, hznd, fun c hc => ?_, ?_⟩
  · rw [← HFS.out, show zs.length = fs.length by rw [HFS.out, List.length_map]]
    refine own_base (HO3.out.kept hg ?_) (by omega)
    rcases hv : v.ownBlock with _ | r
    · exact .inl rfl
    · right; intro e; have := (HO3.out.lt r hv).1; have := Option.some.inj e; omega
  · have h1 := HF.out c (HSUB.out c hc)
    exact ⟨by omega, Nat.lt_of_lt_of_le h1.2 (Nat.le_trans HB3.out.size hg.size), fun e => by have := hlt2 c e; omega⟩
  · exact hb03.grown hg hb03.size (fun r e => by have := Option.some.inj e; omega)

/-- Put into a right tree of a right tree: a tree of its own. -/
theorem Put_ownR (h : Hd) (k : Fo) (q : Option Addr) (cap : Nat) (n : Int) (H : Hd) (K : Fo) (Q : Option Addr) (C : Nat) (w : World) (hh : h.ok) (hs : SlF w q cap k) (hk : k.ok) (hsz : 1 + k.size ≤ 1099511627776)
    (hh' : H.ok) (hs' : SlF w Q C K) (hk' : K.ok) (hsz' : 1 + K.size ≤ 1099511627776) (h1 : riB h k = true) (h4 : riB H K = true) :
    Calls Try.prog 28 #[.agg #[.int .u8 h.op, .string h.name, .int .i64 h.n, .slice q k.len cap], .int .i64 n, .agg #[.int .u8 H.op, .string H.name, .int .i64 H.n, .slice Q K.len C]] w (CopPost w (putTree n H K h k).1 (putTree n H K h k).2) := by
  by_cases h2 : rightB H K 1 = true
  · have e : putTree n H K h k = putT 7 n H K h k := by unfold putTree; rw [if_pos h1, if_pos h2]
    rw [e]
    exact Put_own1 7 rfl h k q cap n H K Q C w hh hs hk hsz hh' hs' hk' hsz' h1 h4 (right_not h2)
  · have h3 : rightB H K 2 = true := by
      have h2' : rightB H K 1 = false := by simpa using h2
      unfold riB at h4; rw [h2'] at h4; simpa using h4
    have e : putTree n H K h k = putT 10 n H K h k := by unfold putTree; rw [if_pos h1, if_neg h2, if_pos h3]
    rw [e]
    exact Put_own2 10 rfl h k q cap n H K Q C w hh hs hk hsz hh' hs' hk' hsz' h1 h4 (right_not2 h3)
end Go.Proofs.Ytmjijmkdeblefaa
