/- Walks: Largest and the reference's. -/
import Derived.Test.YtdfkgkgglldokaaW5
namespace Go.Proofs.Ytdfkgkgglldokaa
open Go.RowKit Go.Maps
set_option linter.unusedVariables false

set_option maxRecDepth 100000 in
set_option maxHeartbeats 1000000 in
theorem blarge_any (A : Option Addr) (c : Nat) (zs : List Int) (w : World) (h : Ints w w.heap.size A zs) (hl : zs.length ≤ 1000000) :
    Calls Try.prog 24 #[.slice A zs.length c] w fun e w' => e = .returned (.int .i64 (Kp.lgL zs : Nat)) ∧ Below w.heap.size w w' := by
  obtain ⟨S, hS, hSb, hSl, _, _⟩ := Kp.szL_map zs
  have HL := Lib.hid (Kp.lgL_eq hS)
  have HS := Lib.hid hS
  have HSb := Lib.hid hSb
  have hcl := Kp.cnt0_le zs
  rw [← hSl] at hcl
  clear hS hSb hSl
  go_enter Try.func24, Try.ntmps24
  go_wp2_with fail
  refine (bsizes_any A c zs _ h (by omega)).mono ?_
  rintro e w1 ⟨A', c', rfl, hI, hB⟩
  rw [HS.out] at hI
  rw [HS.out, List.length_map]
  go_wp2_with fail
  go_loop [3, 9] (fun mv iv => ∃ k m : Nat, k ≤ S.length ∧ iv = .int .i64 k ∧ mv = .int .i64 m ∧ Hid (m = Kp.mxL (S.take k))) (fun _ iv => S.length - (intOf iv).toNat)
  case atStart => exact ⟨0, 0, Nat.zero_le _, rfl, rfl, Lib.hid rfl⟩
  case round =>
    obtain ⟨k, m, hk, rfl, rfl, hm⟩ := hrel
    by_cases hlt : k < S.length
    · obtain ⟨bb, off, x, rfl, hbb, hc, hx⟩ := hI.at_ (k := k) (by rw [List.length_map]; exact hlt)
      obtain ⟨s, hs⟩ : ∃ s, Hid (S.getD k 0 = s) := ⟨_, Lib.hid rfl⟩
      obtain rfl : x = (s : Int) := by rw [hx.out.1, Kp.map_get S k hlt, hs.out]
      have hmx : max (m : Int) (s : Int) = ((max m s : Nat) : Int) := by omega
      have hm' : Hid (max m s = Kp.mxL (S.take (k + 1))) := Lib.hid (by rw [Kp.take_get S k hlt, Kp.mxL_snoc, ← hm.out, hs.out])
      go_wp2_with fail
      go_round
      case rel => exact ⟨k + 1, max m s, by omega, by go_num, by first | rfl | go_num | rw [hmx], hm'⟩
      case measure => simp [intOf]; omega
    · obtain rfl : k = S.length := by omega
      have hR : Hid (m = Kp.lgL zs) := Lib.hid (by rw [hm.out, List.take_length, HL.out])
      go_wp2_with fail
      go_ret
      exact ⟨ret_int (by rw [hR.out]), hB⟩

set_option maxRecDepth 100000 in
set_option maxHeartbeats 1000000 in
theorem rlarge_any (A : Option Addr) (c : Nat) (zs : List Int) (w : World) (h : Ints w w.heap.size A zs) (hl : zs.length ≤ 1000000) :
    Calls Try.prog 25 #[.slice A zs.length c] w fun e w' => e = .returned (.int .i64 (Kp.lgL zs : Nat)) ∧ Below w.heap.size w w' := by
  obtain ⟨S, hS, hSb, hSl, _, _⟩ := Kp.szL_map zs
  have HL := Lib.hid (Kp.lgL_eq hS)
  have HS := Lib.hid hS
  have HSb := Lib.hid hSb
  have hcl := Kp.cnt0_le zs
  rw [← hSl] at hcl
  clear hS hSb hSl
  go_enter Try.func25, Try.ntmps25
  go_wp2_with fail
  refine (rsizes_any A c zs _ h (by omega)).mono ?_
  rintro e w1 ⟨A', c', rfl, hI, hB⟩
  rw [HS.out] at hI
  rw [HS.out, List.length_map]
  go_wp2_with fail
  go_loop [3, 5] (fun mv iv => ∃ k m : Nat, k ≤ S.length ∧ iv = .int .i64 k ∧ mv = .int .i64 m ∧ Hid (m = Kp.mxL (S.take k))) (fun _ iv => S.length - (intOf iv).toNat)
  case atStart => exact ⟨0, 0, Nat.zero_le _, rfl, rfl, Lib.hid rfl⟩
  case round =>
    obtain ⟨k, m, hk, rfl, rfl, hm⟩ := hrel
    by_cases hlt : k < S.length
    · obtain ⟨bb, off, x, rfl, hbb, hc, hx⟩ := hI.at_ (k := k) (by rw [List.length_map]; exact hlt)
      obtain ⟨s, hs⟩ : ∃ s, Hid (S.getD k 0 = s) := ⟨_, Lib.hid rfl⟩
      obtain rfl : x = (s : Int) := by rw [hx.out.1, Kp.map_get S k hlt, hs.out]
      by_cases hms : m < s
      · have hm' : Hid (s = Kp.mxL (S.take (k + 1))) := Lib.hid (by rw [Kp.take_get S k hlt, Kp.mxL_snoc, ← hm.out, hs.out]; omega)
        have h1 : (m : Int) < (s : Int) := by omega
        have h2 : decide (m < s) = true := by simpa using hms
        go_wp2_with fail
        go_round
        case rel => exact ⟨k + 1, s, by omega, by go_num, rfl, hm'⟩
        case measure => simp [intOf]; omega
      · have hm' : Hid (m = Kp.mxL (S.take (k + 1))) := Lib.hid (by rw [Kp.take_get S k hlt, Kp.mxL_snoc, ← hm.out, hs.out]; omega)
        have h1 : ¬ (m : Int) < (s : Int) := by omega
        have h2 : decide (m < s) = false := by simpa using hms
        go_wp2_with fail
        go_round
        case rel => exact ⟨k + 1, m, by omega, by go_num, rfl, hm'⟩
        case measure => simp [intOf]; omega
    · obtain rfl : k = S.length := by omega
      have hR : Hid (m = Kp.lgL zs) := Lib.hid (by rw [hm.out, List.take_length, HL.out])
      go_wp2_with fail
      go_ret
      exact ⟨ret_int (by rw [hR.out]), hB⟩

end Go.Proofs.Ytdfkgkgglldokaa
