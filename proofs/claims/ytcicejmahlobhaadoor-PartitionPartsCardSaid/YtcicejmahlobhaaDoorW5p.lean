/- Walks: Pairs. -/
import Derived.Test.YtcicejmahlobhaaDoorW5
import Derived.IntWalk
namespace Go.Proofs.YtcicejmahlobhaaDoor
open Go.RowKit Go.Maps
set_option linter.unusedVariables false

set_option maxRecDepth 100000 in
set_option maxHeartbeats 1000000 in
theorem bpairs_any (A : Option Addr) (c : Nat) (zs : List Int) (w : World) (h : Ints w w.heap.size A zs) (hl : zs.length ≤ 100000) :
    Calls Tryd.prog 44 #[.slice A zs.length c] w fun e w' => e = .returned (.int .i64 (Kp.prL zs : Nat)) ∧ Below w.heap.size w w' := by
  obtain ⟨S, hS, hSb, hSl, hSs, hSe⟩ := Kp.szL_map zs
  have HS := Lib.hid hS
  have HSe := Lib.hid hSe
  have HSb := Lib.hid hSb
  have hcl := Kp.cnt0_le zs
  rw [← hSl] at hcl
  clear hS hSe hSb hSl
  go_enter Tryd.func44, Tryd.ntmps44
  go_wp2_with fail
  refine (bsizes_any A c zs _ h (by omega)).mono ?_
  rintro e w1 ⟨A', c', rfl, hI, hB⟩
  rw [HS.out] at hI
  rw [HS.out, List.length_map]
  go_wp2_with fail
  go_loop [3, 4, 10] (fun pv bv iv => ∃ k a b : Nat, k ≤ S.length ∧ iv = .int .i64 k ∧ pv = .int .i64 a ∧ bv = .int .i64 b ∧ Hid (a = Kp.e2 (S.take k) 0) ∧ Hid (b = (S.take k).sum)) (fun _ _ iv => S.length - (intOf iv).toNat)
  case atStart => exact ⟨0, 0, 0, Nat.zero_le _, rfl, rfl, rfl, Lib.hid rfl, Lib.hid rfl⟩
  case round =>
    obtain ⟨k, a, b, hk, rfl, rfl, rfl, ha, hb⟩ := hrel
    by_cases hlt : k < S.length
    · obtain ⟨bb, off, x, rfl, hbb, hc, hx⟩ := hI.at_ (k := k) (by rw [List.length_map]; exact hlt)
      obtain ⟨s, hs⟩ : ∃ s, Hid (S.getD k 0 = s) := ⟨_, Lib.hid rfl⟩
      obtain rfl : x = (s : Int) := by rw [hx.out.1, Kp.map_get S k hlt, hs.out]
      have hsl : s ≤ zs.length := by rw [← hs.out, List.getD_eq_getElem?_getD, List.getElem?_eq_getElem hlt]; exact HSb.out _ (List.getElem_mem hlt)
      have hbl : b ≤ zs.length := by rw [hb.out]; exact Nat.le_trans (Kp.sum_take_le S k) hSs
      have hal : a ≤ zs.length * zs.length := by
        rw [ha.out]
        refine Nat.le_trans (Kp.e2_le (S.take k) 0 zs.length (by have := Kp.sum_take_le S k; omega)) ?_
        exact Nat.mul_le_mul_left _ (Nat.le_trans (Kp.sum_take_le S k) hSs)
      have hal' : a ≤ 10000000000 := Nat.le_trans hal (Nat.mul_le_mul hl hl)
      clear hal
      obtain ⟨m, hm⟩ : ∃ m, Hid (b * s = m) := ⟨_, Lib.hid rfl⟩
      have hml : m ≤ 10000000000 := by rw [← hm.out]; exact Nat.mul_le_mul (show b ≤ 100000 by omega) (show s ≤ 100000 by omega)
      obtain ⟨am, ham⟩ : ∃ am, Hid (a + m = am) := ⟨_, Lib.hid rfl⟩
      have hsum : wrap64 ((a : Int) + (m : Int)) = (am : Int) := by
        rw [← Int.natCast_add, ham.out]
        exact IntWalk.wrap64_in _ (by have := ham.out; omega)
      have hmul : wrap64 ((b : Int) * (s : Int)) = (m : Int) := by
        rw [← Int.natCast_mul, hm.out]
        exact IntWalk.wrap64_in _ (by omega)
      have ha' : Hid (am = Kp.e2 (S.take (k + 1)) 0) := Lib.hid (by rw [← ham.out, Kp.take_get S k hlt, Kp.e2_snoc, ← ha.out, ← hb.out, hs.out, Nat.zero_add, hm.out])
      have hb' : Hid (b + s = (S.take (k + 1)).sum) := Lib.hid (by rw [Kp.take_get S k hlt, List.sum_append, ← hb.out, hs.out]; simp)
      go_wp2_with fail
      go_round
      case rel => exact ⟨k + 1, am, b + s, by omega, by go_num, by first | rfl | rw [hsum], by go_num, ha', hb'⟩
      case measure => simp [intOf]; omega
    · obtain rfl : k = S.length := by omega
      have hR : Hid (a = Kp.prL zs) := Lib.hid (by rw [ha.out, List.take_length, HSe.out])
      go_wp2_with fail
      go_ret
      exact ⟨ret_int (by rw [hR.out]), hB⟩

end Go.Proofs.YtcicejmahlobhaaDoor
