/- The laws DomainSpaces, DomainRanks, DomainUnranks, DomainNext, DomainInputs, DomainKinds, walked. -/
import Derived.Test.YtkcnaedffcmodaaWk
namespace Go.Proofs.Ytkcnaedffcmodaa
open Go.RowKit Go.Maps
set_option linter.unusedVariables false

def LawRes (w : World) (e : Ending) (w' : World) : Prop := e = .returned (.bool true) ∧ Below w.heap.size w w'

set_option maxRecDepth 100000 in
set_option maxHeartbeats 2000000 in
theorem spaces_walk (A : Option Addr) (c : Nat) (vs : List Kd.V) (k : Int) (w : World) (h : Vrs w w.heap.size A vs) :
    Calls Try.prog 3 #[.slice A vs.length c, .int .i64 k] w (LawRes w) := by
  go_enter Try.func3, Try.ntmps3
  go_wp2_with fail
  refine (known_ok w).mono ?_
  rintro e w1 ⟨rfl, B1⟩
  by_cases h1 : 80 < vs.length
  · have h1' : (80 : Int) < (vs.length : Int) := by omega
    go_wp2_with fail
    go_ret
    exact ⟨rfl, B1⟩
  have h1' : ¬ (80 : Int) < (vs.length : Int) := by omega
  have hl : vs.length ≤ 1000000 := by omega
  have hl48 : vs.length * 48 ≤ 140737488351232 := by omega
  have V1 := h.at B1
  clear h1
  go_wp2_with fail
  refine (space_any A c vs k _ V1 hl).mono ?_
  rintro e w2 ⟨rfl, n2⟩
  have V2 := V1.at n2
  have B2 := bTrans B1 n2
  clear V1 B1 n2 h1'
  go_wp2_with fail
  refine (rspace_any A c vs k _ V2 hl48).mono ?_
  rintro e w3 ⟨rfl, n3⟩
  have B3 := bTrans B2 n3
  go_wp2_with fail
  go_ret
  exact ⟨rfl, B3⟩

set_option maxRecDepth 100000 in
set_option maxHeartbeats 2000000 in
theorem ranks_walk (A : Option Addr) (c : Nat) (vs : List Kd.V) (k : Int) (B : Option Addr) (cb : Nat) (xs : List Int) (w : World) (h : Vrs w w.heap.size A vs) (hx : Ints w w.heap.size B xs) :
    Calls Try.prog 4 #[.slice A vs.length c, .int .i64 k, .slice B xs.length cb] w (LawRes w) := by
  go_enter Try.func4, Try.ntmps4
  go_wp2_with fail
  refine (known_ok w).mono ?_
  rintro e w1 ⟨rfl, B1⟩
  by_cases h1 : 80 < vs.length
  · have h1' : (80 : Int) < (vs.length : Int) := by omega
    go_wp2_with fail
    go_ret
    exact ⟨rfl, B1⟩
  have h1' : ¬ (80 : Int) < (vs.length : Int) := by omega
  by_cases h2 : 80 < xs.length
  · have h2' : (80 : Int) < (xs.length : Int) := by omega
    go_wp2_with fail
    go_ret
    exact ⟨rfl, B1⟩
  have h2' : ¬ (80 : Int) < (xs.length : Int) := by omega
  have hl : vs.length ≤ 1000000 := by omega
  have hlx : xs.length ≤ 140737488351232 := by omega
  have V1 := h.at B1
  have X1 := hx.at B1
  clear h1 h2
  go_wp2_with fail
  refine (rank_all A c vs k B cb xs _ V1 hl X1).mono ?_
  rintro e w2 ⟨rfl, n2⟩
  have V2 := V1.at n2
  have X2 := X1.at n2
  have B2 := bTrans B1 n2
  clear V1 X1 B1 n2 h1' h2'
  go_wp2_with fail
  refine (rrank_any A c vs k B cb xs _ V2 hl X2).mono ?_
  rintro e w3 ⟨rfl, n3⟩
  have V3 := V2.at n3
  have X3 := X2.at n3
  have B3 := bTrans B2 n3
  clear V2 X2 B2 n3
  by_cases hr : Kd.raC k vs xs = 0
  · obtain ⟨hc, hr2⟩ := Kd.ra_zero hr
    obtain ⟨n, hn1, hn2, hn3⟩ := Kd.rk_num hr2
    have HN : Hid (Kd.raN k vs xs = (n : Int)) := Lib.hid (by rw [(Kd.ra_ok hc).1, hn1])
    have HU : Hid (Kd.uaX k vs (n : Int) = xs ∧ Kd.uaC k vs (n : Int) = 0) := Lib.hid (by rw [(Kd.ua_ok hc).1, (Kd.ua_ok hc).2, (Kd.un_in hn2).1, (Kd.un_in hn2).2, hn3]; exact ⟨rfl, rfl⟩)
    rw [HN.out, hr]
    clear hr hc hr2 hn1 hn2 hn3
    go_wp2_with fail
    refine (unrank_all A c vs k (n : Int) _ V3 hl).mono ?_
    rintro e w4 ⟨A4, c4, rfl, I4, n4⟩
    rw [HU.out.1] at I4 ⊢
    rw [HU.out.2]
    have X4 := X3.at n4
    have B4 := bTrans B3 n4
    clear V3 X3 B3 n4
    go_wp2_with fail
    refine (same_any A4 B c4 cb xs xs _ I4 X4 hlx).mono ?_
    rintro e w5 ⟨rfl, n5⟩
    rw [beq_self_eq_true]
    go_wp2_with fail
    go_ret
    exact ⟨rfl, bTrans B4 n5⟩
  · have hne : (Kd.raC k vs xs != 0) = true := by simpa using hr
    clear hr
    go_wp2_with fail
    go_ret
    exact ⟨rfl, B3⟩

namespace Kd
/-- the number of the vector with a number -/
theorem ra_un {k : Int} {vs : List V} {r : Int} (h : uaC k vs r = 0) : raC k vs (uaX k vs r) = 0 ∧ raN k vs (uaX k vs r) = r := by
  by_cases hc : code k vs = 0
  · rw [(ua_ok hc).2] at h
    have hr : 0 ≤ r ∧ r < (pr (digs k vs) : Nat) := by
      apply Classical.byContradiction
      intro hn
      rw [(un_out hn).2] at h
      exact absurd h (by decide)
    obtain ⟨n, rfl⟩ : ∃ n : Nat, r = (n : Int) := ⟨r.toNat, by omega⟩
    have hn : n < pr (digs k vs) := by omega
    have hd := (code_ok hc).2.2
    rw [(ua_ok hc).1, (un_in hn).1, (ra_ok hc).1, (ra_ok hc).2, (rk_ok unL_length (in_un hd)).1, (rk_ok unL_length (in_un hd)).2, rk_un hd hn]
    exact ⟨rfl, rfl⟩
  · rw [(ua_bad hc).2] at h; exact absurd h hc
theorem ua_len {k : Int} {vs : List V} {r : Int} (hl : vs.length ≤ 1000000) : (uaX k vs r).length ≤ 1000000 := by
  by_cases hc : code k vs = 0
  · rw [(ua_ok hc).1]
    unfold unX
    split
    · rw [unL_length]; exact Nat.le_trans digs_le hl
    · simp
  · rw [(ua_bad hc).1]; simp
end Kd

set_option maxRecDepth 100000 in
set_option maxHeartbeats 2000000 in
theorem unranks_walk (A : Option Addr) (c : Nat) (vs : List Kd.V) (k : Int) (r : Int) (w : World) (h : Vrs w w.heap.size A vs) :
    Calls Try.prog 5 #[.slice A vs.length c, .int .i64 k, .int .i64 r] w (LawRes w) := by
  go_enter Try.func5, Try.ntmps5
  go_wp2_with fail
  refine (known_ok w).mono ?_
  rintro e w1 ⟨rfl, B1⟩
  by_cases h1 : 80 < vs.length
  · have h1' : (80 : Int) < (vs.length : Int) := by omega
    go_wp2_with fail
    go_ret
    exact ⟨rfl, B1⟩
  have h1' : ¬ (80 : Int) < (vs.length : Int) := by omega
  have hl : vs.length ≤ 1000000 := by omega
  have V1 := h.at B1
  clear h1
  go_wp2_with fail
  refine (unrank_all A c vs k r _ V1 hl).mono ?_
  rintro e w2 ⟨A2, c2, rfl, I2, n2⟩
  have V2 := V1.at n2
  have B2 := bTrans B1 n2
  clear V1 B1 n2 h1'
  go_wp2_with fail
  refine (runrank_any A c vs k r _ V2 hl).mono ?_
  rintro e w3 ⟨A3, c3, rfl, I3, n3⟩
  have V3 := V2.at n3
  have J3 := I2.at n3
  have B3 := bTrans B2 n3
  have hul : (Kd.uaX k vs r).length ≤ 140737488351232 := Nat.le_trans (Kd.ua_len hl) (by omega)
  have HRU : Hid (Kd.uaC k vs r = 0 → Kd.raC k vs (Kd.uaX k vs r) = 0 ∧ Kd.raN k vs (Kd.uaX k vs r) = r) := Lib.hid Kd.ra_un
  clear V2 B2 n3 I2
  revert J3 I3 hul HRU
  generalize Kd.uaX k vs r = zs
  generalize Kd.uaC k vs r = C
  intro I3 J3 hul HRU
  go_wp2_with fail
  refine (same_any A2 A3 c2 c3 zs zs _ J3 I3 hul).mono ?_
  rintro e w4 ⟨rfl, n4⟩
  rw [beq_self_eq_true]
  have V4 := V3.at n4
  have J4 := J3.at n4
  have B4 := bTrans B3 n4
  clear V3 J3 I3 B3 n4
  go_wp2_with fail
  refine (rank_all A c vs k A2 c2 zs _ V4 hl J4).mono ?_
  rintro e w5 ⟨rfl, n5⟩
  have B5 := bTrans B4 n5
  by_cases hC : C = 0
  · have HR := Lib.hid (HRU.out hC)
    rw [HR.out.1, HR.out.2]
    subst hC
    go_wp2_with fail
    go_ret
    exact ⟨rfl, B5⟩
  · have hne : (C != 0) = true := by simpa using hC
    clear hC
    go_wp2_with fail
    go_ret
    exact ⟨rfl, B5⟩
end Go.Proofs.Ytkcnaedffcmodaa
