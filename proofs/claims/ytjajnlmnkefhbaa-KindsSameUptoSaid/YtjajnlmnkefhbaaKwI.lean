/- The document's Same; the law of KindsSame. -/
import Derived.Test.YtjajnlmnkefhbaaKw
import Derived.Test.YtjajnlmnkefhbaaLawB
import Derived.Deep.RegionWith
namespace Go.Proofs.Ytjajnlmnkefhbaa
open Go.RowKit LM
set_option linter.unusedVariables false

set_option maxRecDepth 100000 in
set_option maxHeartbeats 1000000 in
theorem refSame_any (h : Hd) (k : Fo) (q : Option Addr) (cap : Nat) (H : Hd) (K : Fo) (Q : Option Addr) (C : Nat) (w : World) (hh : h.ok) (hs : SlF w q cap k) (hk : k.ok) (hsz : 1 + k.size ≤ 1099511627776)
    (hh' : H.ok) (hs' : SlF w Q C K) (hk' : K.ok) (hsz' : 1 + K.size ≤ 1099511627776) (hr1 : riB h k = true) (hr2 : riB H K = true) :
    Calls Try.prog 25 #[.agg #[.int .u8 h.op, .string h.name, .int .i64 h.n, .slice q k.len cap], .agg #[.int .u8 H.op, .string H.name, .int .i64 H.n, .slice Q K.len C]] w fun e w' => e = .returned (.bool (alk (canT h k) (canT H K))) ∧ Below w.heap.size w w' := by
  have k1 : rightB h k 1 = true ∨ rightB h k 2 = true := by unfold riB at hr1; simpa using hr1
  have k2 : rightB H K 1 = true ∨ rightB H K 2 = true := by unfold riB at hr2; simpa using hr2
  obtain ⟨s1, g1, s12⟩ : ∃ s, sh1 h k s = true ∧ (s = 1 ∨ s = 2) := k1.elim (fun h => ⟨1, sh1_right h, .inl rfl⟩) (fun h => ⟨2, sh1_right h, .inr rfl⟩)
  obtain ⟨s2, g2, s22⟩ : ∃ s, sh1 H K s = true ∧ (s = 1 ∨ s = 2) := k2.elim (fun h => ⟨1, sh1_right h, .inl rfl⟩) (fun h => ⟨2, sh1_right h, .inr rfl⟩)
  have HC1 := Lib.hid fun w' (hb : Below w.heap.size w w') => refCanon_any (k.size + 1) h k q cap w' s1 (by omega) hsz g1 s12 (hs.below hb)
  have HC2 := Lib.hid fun w' (hb : Below w.heap.size w w') => refCanon_any (K.size + 1) H K Q C w' s2 (by omega) hsz' g2 s22 (hs'.below hb)
  obtain ⟨o1, o2⟩ := canT_ok hh hk
  obtain ⟨o3, o4⟩ := canT_ok hh' hk'
  have HA := Lib.hid fun q1 q2 c1 c2 w' => Alike_any ((canT h k).2.size + 1) (canT h k).1 (canT H K).1 (canT h k).2 (canT H K).2 q1 q2 c1 c2 w' (by omega) o1 o3 o2 o4
  have HAD := Lib.hid (two_boxes (Below.refl ((w.alloc (.cells #[.int .u8 h.op, .string h.name, .int .i64 h.n, .slice q k.len cap] 25)).alloc (.cells #[.int .u8 H.op, .string H.name, .int .i64 H.n, .slice Q K.len C] 25)).heap.size _))
  clear hh hs hk hsz hh' hs' hk' hsz' hr1 hr2 k1 k2 s12 s22 g1 g2 o1 o2 o3 o4
  rw [show ((canT h k).1, (canT h k).2) = canT h k from rfl, show ((canT H K).1, (canT H K).2) = canT H K from rfl] at HA
  generalize canT h k = T at *
  generalize canT H K = T' at *
  go_enter Try.func25, Try.ntmps25
  go_wp2
  go_region_with (first
    | (go_at_call_of 21 (Value.int .u8 h.op); refine (HC1.out _ HAD.out.1.drew).mono ?_; rintro e w3 ⟨q1, c1, rfl, d1, hb1⟩; have hb3 := below_of_drew hb1; obtain ⟨p0, p1, p2, p3, _⟩ := row4 ((hb3.block _ (Array.getElem?_eq_some_iff.1 HAD.out.2.2).1).trans HAD.out.2.2); have H3 := Lib.hid hb3; have HD1 := Lib.hid d1; clear hb1 hb3 d1)
    | (go_at_call_of 21 (Value.int .u8 H.op); refine (HC2.out _ (below_then HAD.out.1 (by first | exact H3.out | exact H3.out.drew))).mono ?_; rintro e w4 ⟨q2, c2, rfl, d2, hb2⟩; have hb4 : Below w3.heap.size w3 w4 := (by first | exact hb2 | exact below_of_drew hb2); have HAK := Lib.hid (HA.out q1 q2 c1 c2 w4 (HD1.out.below hb4).here d2.here); have HBB := Lib.hid (below_then HAD.out.1 (H3.out.trans (hb4.mono H3.out.size))); clear hb2 hb4 d2 p0 p1 p2 p3)
    | (go_at_call 16; refine HAK.out.mono ?_; rintro e w5 ⟨rfl, hb5⟩; have HB5 := Lib.hid (below_then HBB.out hb5); clear hb5))
  all_goals (go_wp2; go_ret; exact ⟨rfl, HB5.out⟩)
end Go.Proofs.Ytjajnlmnkefhbaa
