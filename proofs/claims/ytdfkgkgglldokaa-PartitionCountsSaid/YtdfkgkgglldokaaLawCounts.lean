/- The law PartitionCounts, walked. -/
import Derived.Test.YtdfkgkgglldokaaW9
namespace Go.Proofs.Ytdfkgkgglldokaa
open Go.RowKit Go.Maps
set_option linter.unusedVariables false

set_option maxRecDepth 100000 in
set_option maxHeartbeats 2000000 in
theorem counts_walk (A : Option Addr) (ca : Nat) (zs : List Int) (m : Int) (w : World) (ha : Ints w w.heap.size A zs) :
    Calls Try.prog 4 #[.slice A zs.length ca, .int .i64 m] w fun e w' => e = .returned (.bool true) ∧ Below w.heap.size w w' := by
  go_enter Try.func4, Try.ntmps4
  go_wp2_with fail
  refine (known_ok w).mono ?_
  rintro e w1 ⟨rfl, B1⟩
  by_cases h1 : 64 < zs.length
  · have h1' : (64 : Int) < (zs.length : Int) := by omega
    go_wp2_with fail
    go_ret
    exact ⟨rfl, B1⟩
  have h1' : ¬ (64 : Int) < (zs.length : Int) := by omega
  have hlz : zs.length ≤ 1000000 := by omega
  have hlz2 : zs.length ≤ 100000 := by omega
  have ha1 := ha.at B1
  have hsl : (Kp.szL zs).length ≤ 140737488351232 := by
    have h1 := Kp.szL_length zs
    have h2 := Kp.cnt0_le zs
    omega
  have hcl : (Kp.clL zs m).length ≤ 140737488351232 := by
    unfold Kp.clL
    split
    · rw [Kp.clF_length]; have := Kp.cntv_le (Kp.lab zs) m zs.length; omega
    · simp
  go_wp2_with fail
  refine (bcount_any A ca zs _ ha1 hlz).mono ?_
  rintro e w2 ⟨rfl, n2⟩
  have B2 := bTrans B1 n2
  have ha2 := ha1.at n2
  clear ha1 B1 n2
  go_wp2_with fail
  refine (rcount_any A ca zs _ ha2 hlz).mono ?_
  rintro e w' ⟨rfl, rfl⟩
  generalize Kp.cnt0 zs = C
  go_wp2_with fail
  refine (bsizes_any A ca zs _ ha2 hlz).mono ?_
  rintro e w3 ⟨A3, c3, rfl, hI3, n3⟩
  have B3 := bTrans B2 n3
  have ha3 := ha2.at n3
  clear ha2 B2 n3
  go_wp2_with fail
  refine (rsizes_any A ca zs _ ha3 hlz).mono ?_
  rintro e w4 ⟨A4, c4, rfl, hI4, n4⟩
  have B4 := bTrans B3 n4
  have ha4 := ha3.at n4
  have hJ4 := hI3.at n4
  clear ha3 B3 n4 hI3
  go_wp2_with fail
  refine (seqi_any A3 A4 c3 c4 _ _ _ hJ4 hI4 hsl).mono ?_
  rintro e w5 ⟨rfl, q5, rfl⟩
  rw [beq_self_eq_true]
  have n5 : Below w4.heap.size w4 (w4.drewN q5) := bDrew (Below.refl _ _) q5
  have B5 := bTrans B4 n5
  have ha5 := ha4.at n5
  clear ha4 B4 n5 hJ4 hI4
  generalize w4.drewN q5 = w5 at *
  go_wp2_with fail
  refine (bclass_any A ca zs m _ ha5 hlz).mono ?_
  rintro e w6 ⟨A6, c6, rfl, hI6, n6⟩
  have B6 := bTrans B5 n6
  have ha6 := ha5.at n6
  clear ha5 B5 n6
  go_wp2_with fail
  refine (rclass_any A ca zs m _ ha6 hlz).mono ?_
  rintro e w7 ⟨A7, c7, rfl, hI7, n7⟩
  have B7 := bTrans B6 n7
  have ha7 := ha6.at n7
  have hJ7 := hI6.at n7
  clear ha6 B6 n7 hI6
  go_wp2_with fail
  refine (seqi_any A6 A7 c6 c7 _ _ _ hJ7 hI7 hcl).mono ?_
  rintro e w8 ⟨rfl, q8, rfl⟩
  rw [beq_self_eq_true]
  have n8 : Below w7.heap.size w7 (w7.drewN q8) := bDrew (Below.refl _ _) q8
  have B8 := bTrans B7 n8
  have ha8 := ha7.at n8
  clear ha7 B7 n8 hJ7 hI7
  generalize w7.drewN q8 = w8 at *
  go_wp2_with fail
  refine (bpairs_any A ca zs _ ha8 hlz2).mono ?_
  rintro e w9 ⟨rfl, n9⟩
  have B9 := bTrans B8 n9
  have ha9 := ha8.at n9
  clear ha8 B8 n9
  go_wp2_with fail
  refine (rpairs_any A ca zs _ ha9 hlz2).mono ?_
  rintro e w10 ⟨rfl, n10⟩
  have B10 := bTrans B9 n10
  have ha10 := ha9.at n10
  clear ha9 B9 n10
  generalize Kp.prL zs = P
  go_wp2_with fail
  refine (blarge_any A ca zs _ ha10 hlz).mono ?_
  rintro e w11 ⟨rfl, n11⟩
  have B11 := bTrans B10 n11
  have ha11 := ha10.at n11
  clear ha10 B10 n11
  go_wp2_with fail
  refine (rlarge_any A ca zs _ ha11 hlz).mono ?_
  rintro e w12 ⟨rfl, n12⟩
  have B12 := bTrans B11 n12
  generalize Kp.lgL zs = G
  go_wp2_with fail
  go_ret
  exact ⟨rfl, B12⟩
end Go.Proofs.Ytdfkgkgglldokaa
