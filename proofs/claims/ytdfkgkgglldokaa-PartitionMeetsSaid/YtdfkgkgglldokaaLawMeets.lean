/- The law PartitionMeets, walked. -/
import Derived.Test.YtdfkgkgglldokaaWe
namespace Go.Proofs.Ytdfkgkgglldokaa
open Go.RowKit Go.Maps
set_option linter.unusedVariables false

theorem rrefines_all (A : Option Addr) (ca : Nat) (p : List Int) (B : Option Addr) (cb : Nat) (q : List Int) (w : World) (ha : Ints w w.heap.size A p) (hb : Ints w w.heap.size B q) (hlp : p.length ≤ 1000000) (hlq : q.length ≤ 1000000) (hc : Kp.code p q = 0) :
    Calls Try.prog 30 #[.slice A p.length ca, .slice B q.length cb] w (RefRes (Kp.refB p q) 0 w) := brefines_ok A ca p B cb q w ha hb hlp hlq hc

set_option maxRecDepth 100000 in
set_option maxHeartbeats 4000000 in
theorem meets_walk (A : Option Addr) (ca : Nat) (p : List Int) (B : Option Addr) (cb : Nat) (q : List Int) (w : World) (ha : Ints w w.heap.size A p) (hb : Ints w w.heap.size B q) :
    Calls Try.prog 5 #[.slice A p.length ca, .slice B q.length cb] w fun e w' => e = .returned (.bool true) ∧ Below w.heap.size w w' := by
  go_enter Try.func5, Try.ntmps5
  go_wp2_with fail
  refine (known_ok w).mono ?_
  rintro e w1 ⟨rfl, B1⟩
  by_cases h1 : 64 < p.length
  · have h1' : (64 : Int) < (p.length : Int) := by omega
    go_wp2_with fail
    go_ret
    exact ⟨rfl, B1⟩
  have h1' : ¬ (64 : Int) < (p.length : Int) := by omega
  by_cases h2 : 64 < q.length
  · have h2' : (64 : Int) < (q.length : Int) := by omega
    go_wp2_with fail
    go_ret
    exact ⟨rfl, B1⟩
  have h2' : ¬ (64 : Int) < (q.length : Int) := by omega
  have hlp : p.length ≤ 1000000 := by omega
  have hlq : q.length ≤ 1000000 := by omega
  have hpl : p.length ≤ 64 := by omega
  have ha1 := ha.at B1
  have hb1 := hb.at B1
  clear h1 h2
  by_cases hc : Kp.code p q = 0
  · have HC := Lib.hid hc
    clear hc
    obtain ⟨RB, hRB⟩ : ∃ RB, Hid (Kp.refB p q = RB) := ⟨_, Lib.hid rfl⟩
    go_wp2_with fail
    clear h1' h2'
    refine (bmeet_ok A ca p B cb q _ ha1 hb1 hlp hlq HC.out).mono ?_
    rintro e w2 ⟨z, A2, c2, hz, rfl, I2, n⟩
    have B2 := bTrans B1 n
    have ha2 := ha1.at n
    have hb2 := hb1.at n
    clear ha1 hb1 B1 n
    have hzl : z.length ≤ 140737488351232 := by rw [hz.len]; omega
    have HZ := Lib.hid hz
    clear hz
    go_wp2_with fail
    refine (rmeet_ok A ca p B cb q _ ha2 hb2 hlp hlq HC.out).mono ?_
    rintro e w3 ⟨z', A3, c3, hz', rfl, I3, n⟩
    obtain rfl : z = z' := HZ.out.uniq hz'
    have B3 := bTrans B2 n
    have ha3 := ha2.at n
    have hb3 := hb2.at n
    have J3 := I2.at n
    clear ha2 hb2 B2 n I2 hz'
    go_wp2_with fail
    refine (bjoin_ok A ca p B cb q _ ha3 hb3 hlp hlq HC.out).mono ?_
    rintro e w4 ⟨y, A4, c4, hy, rfl, I4, n⟩
    have B4 := bTrans B3 n
    have ha4 := ha3.at n
    have hb4 := hb3.at n
    have J4 := J3.at n
    have K4 := I3.at n
    clear ha3 hb3 B3 n J3 I3
    have hyl : y.length ≤ 140737488351232 := by rw [hy.len]; omega
    have HY := Lib.hid hy
    clear hy
    go_wp2_with fail
    refine (rjoin_ok A ca p B cb q _ ha4 hb4 hlp hlq HC.out).mono ?_
    rintro e w5 ⟨y', A5, c5, hy', rfl, I5, n⟩
    obtain rfl : y = y' := HY.out.uniq hy'
    have B5 := bTrans B4 n
    have ha5 := ha4.at n
    have hb5 := hb4.at n
    have J5 := J4.at n
    have K5 := K4.at n
    have L5 := I4.at n
    clear ha4 hb4 B4 n J4 K4 I4 hy'
    go_wp2_with fail
    refine (rrefines_all A ca p B cb q _ ha5 hb5 hlp hlq HC.out).mono ?_
    rintro e w6 ⟨rfl, n⟩
    rw [hRB.out]
    have B6 := bTrans B5 n
    have ha6 := ha5.at n
    have hb6 := hb5.at n
    have J6 := J5.at n
    have K6 := K5.at n
    have L6 := L5.at n
    have M6 := I5.at n
    clear ha5 hb5 B5 n J5 K5 L5 I5
    go_wp2_with fail
    refine (rrefines_ok A ca p B cb q _ ha6 hb6 hlp hlq HC.out).mono ?_
    rintro e w7 ⟨rfl, n⟩
    rw [hRB.out]
    have B7 := bTrans B6 n
    have J7 := J6.at n
    have K7 := K6.at n
    have L7 := L6.at n
    have M7 := M6.at n
    clear ha6 hb6 B6 n J6 K6 L6 M6
    go_wp2_with fail
    refine (seqi_any A2 A3 c2 c3 z z _ J7 K7 hzl).mono ?_
    rintro e w8 ⟨rfl, t8, rfl⟩
    rw [beq_self_eq_true]
    have n8 : Below w7.heap.size w7 (w7.drewN t8) := bDrew (Below.refl _ _) t8
    have B8 := bTrans B7 n8
    have L8 := L7.at n8
    have M8 := M7.at n8
    clear J7 K7 L7 M7 B7 n8
    generalize w7.drewN t8 = w8 at *
    go_wp2_with fail
    refine (seqi_any A4 A5 c4 c5 y y _ L8 M8 hyl).mono ?_
    rintro e w9 ⟨rfl, t9, rfl⟩
    rw [beq_self_eq_true]
    have B9 := bTrans B8 (bDrew (Below.refl w8.heap.size w8) t9)
    generalize w8.drewN t9 = w9 at *
    cases RB
    all_goals
      go_wp2_with fail
      go_ret
      exact ⟨rfl, B9⟩
  · have HC := Lib.hid hc
    clear hc
    obtain ⟨C, hC⟩ : ∃ C, Hid (Kp.code p q = C) := ⟨_, Lib.hid rfl⟩
    go_wp2_with fail
    clear h1' h2'
    refine (bmeet_err A ca p B cb q _ ha1 hb1 hlp hlq HC.out).mono ?_
    rintro e w2 ⟨rfl, n⟩
    rw [hC.out]
    have B2 := bTrans B1 n
    have ha2 := ha1.at n
    have hb2 := hb1.at n
    clear ha1 hb1 B1 n
    go_wp2_with fail
    refine (rmeet_err A ca p B cb q _ ha2 hb2 hlp hlq HC.out).mono ?_
    rintro e w3 ⟨rfl, n⟩
    rw [hC.out]
    have B3 := bTrans B2 n
    have ha3 := ha2.at n
    have hb3 := hb2.at n
    clear ha2 hb2 B2 n
    go_wp2_with fail
    refine (bjoin_err A ca p B cb q _ ha3 hb3 hlp hlq HC.out).mono ?_
    rintro e w4 ⟨rfl, n⟩
    rw [hC.out]
    have B4 := bTrans B3 n
    have ha4 := ha3.at n
    have hb4 := hb3.at n
    clear ha3 hb3 B3 n
    go_wp2_with fail
    refine (rjoin_err A ca p B cb q _ ha4 hb4 hlp hlq HC.out).mono ?_
    rintro e w5 ⟨rfl, n⟩
    rw [hC.out]
    have B5 := bTrans B4 n
    have ha5 := ha4.at n
    have hb5 := hb4.at n
    clear ha4 hb4 B4 n
    go_wp2_with fail
    refine (brefines_err A ca p B cb q _ ha5 hb5 hlp hlq HC.out).mono ?_
    rintro e w6 ⟨rfl, n⟩
    rw [hC.out]
    have B6 := bTrans B5 n
    have ha6 := ha5.at n
    have hb6 := hb5.at n
    clear ha5 hb5 B5 n
    go_wp2_with fail
    refine (rrefines_err A ca p B cb q _ ha6 hb6 hlp hlq HC.out).mono ?_
    rintro e w7 ⟨rfl, n⟩
    rw [hC.out]
    have B7 := bTrans B6 n
    clear ha6 hb6 B6 n
    go_wp2_with fail
    refine (seqi_any none none 0 0 [] [] _ (Ints.nil _ _ _) (Ints.nil _ _ _) (by simp)).mono ?_
    rintro e w8 ⟨rfl, t8, rfl⟩
    rw [show (([] : List Int) == []) = true from rfl]
    have B8 := bTrans B7 (bDrew (Below.refl w7.heap.size w7) t8)
    generalize w7.drewN t8 = w8 at *
    go_wp2_with fail
    refine (seqi_any none none 0 0 [] [] _ (Ints.nil _ _ _) (Ints.nil _ _ _) (by simp)).mono ?_
    rintro e w9 ⟨rfl, t9, rfl⟩
    rw [show (([] : List Int) == []) = true from rfl]
    have B9 := bTrans B8 (bDrew (Below.refl w8.heap.size w8) t9)
    generalize w8.drewN t9 = w9 at *
    go_wp2_with fail
    go_ret
    exact ⟨rfl, B9⟩
end Go.Proofs.Ytdfkgkgglldokaa
