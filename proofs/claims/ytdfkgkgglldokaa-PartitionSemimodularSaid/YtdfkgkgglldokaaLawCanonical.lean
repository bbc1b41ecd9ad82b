/- The law PartitionCanonical, walked. -/
import Derived.Test.YtdfkgkgglldokaaW9
namespace Go.Proofs.Ytdfkgkgglldokaa
open Go.RowKit Go.Maps
set_option linter.unusedVariables false

theorem valid_ofL (zs : List Int) : Kp.vB (Kp.ofL zs) = true := Kp.vB_ofF _ _
theorem ofL_beq (ps : List Int) : (Kp.ofL ps == ps) = Kp.vB ps := by
  rw [Bool.eq_iff_iff, beq_iff_eq]; exact Kp.ofL_eq_iff

set_option maxRecDepth 100000 in
set_option maxHeartbeats 2000000 in
theorem canonical_walk (A : Option Addr) (ca : Nat) (zs : List Int) (B : Option Addr) (cb : Nat) (ps : List Int) (w : World) (ha : Ints w w.heap.size A zs) (hb : Ints w w.heap.size B ps) :
    Calls Try.prog 3 #[.slice A zs.length ca, .slice B ps.length cb] w fun e w' => e = .returned (.bool true) ∧ Below w.heap.size w w' := by
  go_enter Try.func3, Try.ntmps3
  go_wp2_with fail
  refine (known_ok w).mono ?_
  rintro e w1 ⟨rfl, B1⟩
  by_cases h1 : 64 < zs.length
  · have h1' : (64 : Int) < (zs.length : Int) := by omega
    go_wp2_with fail
    go_ret
    exact ⟨rfl, B1⟩
  have h1' : ¬ (64 : Int) < (zs.length : Int) := by omega
  by_cases h2 : 64 < ps.length
  · have h2' : (64 : Int) < (ps.length : Int) := by omega
    go_wp2_with fail
    go_ret
    exact ⟨rfl, B1⟩
  have h2' : ¬ (64 : Int) < (ps.length : Int) := by omega
  have hlz : zs.length ≤ 1000000 := by omega
  have hlp : ps.length ≤ 1000000 := by omega
  have ha1 := ha.at B1
  have hb1 := hb.at B1
  go_wp2_with fail
  refine (of_any A ca zs _ ha1 hlz).mono ?_
  rintro e w2 ⟨A2, c2, rfl, hq, n2⟩
  have B2 := bTrans B1 n2
  have ha2 := ha1.at n2
  have hb2 := hb1.at n2
  have hql : (Kp.ofL zs).length ≤ 1000000 := by rw [Kp.ofL_length]; exact hlz
  clear ha1 hb1 B1 n2
  have hE := ofL_beq ps
  have hV := valid_ofL zs
  obtain ⟨V, hVp⟩ : ∃ V, Hid (Kp.vB ps = V) := ⟨_, Lib.hid rfl⟩
  rw [hVp.out] at hE
  have HE := Lib.hid hE
  have HV := Lib.hid hV
  clear hE hV
  go_wp2_with fail
  refine (rof_any A ca zs _ ha2 hlz).mono ?_
  rintro e w3 ⟨A3, c3, rfl, hr, n3⟩
  have B3 := bTrans B2 n3
  have hb3 := hb2.at n3
  have hq3 := hq.at n3
  clear ha2 hb2 B2 n3 hq
  go_wp2_with fail
  refine (seqi_any A2 A3 c2 c3 _ _ _ hq3 hr (by omega)).mono ?_
  rintro e w4 ⟨rfl, q4, rfl⟩
  rw [beq_self_eq_true]
  have n4 : Below w3.heap.size w3 (w3.drewN q4) := bDrew (Below.refl _ _) q4
  have B4 := bTrans B3 n4
  have hb4 := hb3.at n4
  have hq4 := hq3.at n4
  clear hb3 B3 n4 hq3 hr
  generalize w3.drewN q4 = w4 at *
  go_wp2_with fail
  refine (bvalid_any A2 c2 _ _ hq4 hql).mono ?_
  rintro e w' ⟨rfl, rfl⟩
  rw [HV.out]
  go_wp2_with fail
  refine (bvalid_any B cb ps _ hb4 hlp).mono ?_
  rintro e w' ⟨rfl, rfl⟩
  rw [hVp.out]
  go_wp2_with fail
  refine (rvalid_any B cb ps _ hb4 hlp).mono ?_
  rintro e w' ⟨rfl, rfl⟩
  rw [hVp.out]
  go_wp2_with fail
  refine (of_any B cb ps _ hb4 hlp).mono ?_
  rintro e w5 ⟨A5, c5, rfl, hp5, n5⟩
  have B5 := bTrans B4 n5
  have hb5 := hb4.at n5
  have hpl : (Kp.ofL ps).length ≤ 140737488351232 := by rw [Kp.ofL_length]; omega
  clear hb4 B4 n5 hq4
  go_wp2_with fail
  refine (seqi_any A5 B c5 cb _ ps _ hp5 hb5 hpl).mono ?_
  rintro e w6 ⟨rfl, q6, rfl⟩
  rw [HE.out]
  have n6 : Below w5.heap.size w5 (w5.drewN q6) := bDrew (Below.refl _ _) q6
  have B6 := bTrans B5 n6
  have hb6 := hb5.at n6
  clear hb5 B5 n6 hp5
  generalize w5.drewN q6 = w6 at *
  go_wp2_with fail
  refine (rvalid_any B cb ps _ hb6 hlp).mono ?_
  rintro e w' ⟨rfl, rfl⟩
  rw [hVp.out]
  go_wp2_with fail
  go_ret
  exact ⟨rfl, B6⟩
end Go.Proofs.Ytdfkgkgglldokaa
