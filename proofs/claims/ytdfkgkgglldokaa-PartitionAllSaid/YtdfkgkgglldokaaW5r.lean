/- Walks: the reference's Pairs. -/
import Derived.Test.YtdfkgkgglldokaaW5
namespace Go.Proofs.Ytdfkgkgglldokaa
open Go.RowKit Go.Maps
set_option linter.unusedVariables false

set_option maxRecDepth 100000 in
set_option maxHeartbeats 1000000 in
theorem rpairs_any (A : Option Addr) (c : Nat) (zs : List Int) (w : World) (h : Ints w w.heap.size A zs) (hl : zs.length ≤ 100000) :
    Calls Try.prog 23 #[.slice A zs.length c] w fun e w' => e = .returned (.int .i64 (Kp.prL zs : Nat)) ∧ Below w.heap.size w w' := by
  cases hv : Kp.vB zs with
  | false =>
    have hS : Hid (Kp.prL zs = 0) := Lib.hid (by unfold Kp.prL; rw [hv]; rfl)
    have hV := Lib.hid hv
    clear hv
    go_enter Try.func23, Try.ntmps23
    go_wp2_with fail
    refine (rvalid_any A c zs _ h (by omega)).mono ?_
    rintro e w' ⟨rfl, rfl⟩
    rw [hV.out]
    go_wp2_with fail
    go_ret
    exact ⟨ret_int (by rw [hS.out]; rfl), Below.refl _ _⟩
  | true =>
    obtain ⟨f, hf⟩ : ∃ f, Hid (Kp.lab zs = f) := ⟨_, Lib.hid rfl⟩
    have hS : Hid (Kp.prL zs = Kp.prN f zs.length) := Lib.hid (by unfold Kp.prL; rw [hv, if_pos rfl, hf.out])
    have hV := Lib.hid hv
    clear hv
    go_enter Try.func23, Try.ntmps23
    go_wp2_with fail
    refine (rvalid_any A c zs _ h (by omega)).mono ?_
    rintro e w' ⟨rfl, rfl⟩
    rw [hV.out]
    go_wp2_with fail
    go_loopw [3, 4] (fun nv iv wr => ∃ k a q : Nat, k ≤ zs.length ∧ iv = .int .i64 k ∧ nv = .int .i64 a ∧ Hid (a = Kp.prN f k) ∧ wr = w.drewN q) (fun _ iv _ => zs.length - (intOf iv).toNat)
    case atStart => exact ⟨0, 0, 0, Nat.zero_le _, rfl, rfl, Lib.hid rfl, rfl⟩
    case round =>
      obtain ⟨k, a, q, hk, rfl, rfl, ha, rfl⟩ := hrel
      have hal : a ≤ 10000000000 := by rw [ha.out]; exact Nat.le_trans (Kp.prN_le f k) (Nat.mul_le_mul (show k ≤ 100000 by omega) (show k ≤ 100000 by omega))
      by_cases hlt : k < zs.length
      · obtain ⟨b, off, x, rfl, hbb, hc, hx⟩ := h.at_ hlt
        have hxl : Hid (x = f k) := Lib.hid (by rw [← hf.out]; exact hx.out.1)
        go_wp2_with fail
        go_loopw [3, 5] (fun nv jv wr => ∃ j d q : Nat, j ≤ k ∧ jv = .int .i64 j ∧ nv = .int .i64 (a + d : Nat) ∧ d ≤ j ∧ Hid (d = Kp.prI f k j) ∧ wr = w.drewN q) (fun _ jv _ => k - (intOf jv).toNat)
        case atStart => exact ⟨0, 0, q, Nat.zero_le _, rfl, rfl, Nat.le_refl _, Lib.hid rfl, rfl⟩
        case round =>
          obtain ⟨j, d, q, hj, rfl, rfl, hdj, hd, rfl⟩ := hrel
          obtain ⟨ad, had⟩ : ∃ ad, Hid (a + d = ad) := ⟨_, Lib.hid rfl⟩
          have hadl : ad ≤ 10000100000 := by rw [← had.out]; omega
          rw [had.out]
          by_cases hjk : j < k
          · obtain ⟨_, _, y, hA, hbb2, hc2, hy⟩ := h.at_ (k := j) (by omega)
            cases hA
            have hyl : Hid (y = f j) := Lib.hid (by rw [← hf.out]; exact hy.out.1)
            by_cases hxy : x = y
            · have h1 : (x != y) = false := by simpa using hxy
              have hd' : Hid (d = Kp.prI f k (j + 1)) := Lib.hid (by show d = Kp.prI f k j + _; rw [if_pos (by rw [← hxl.out, ← hyl.out]; exact hxy), ← hd.out]; rfl)
              clear hxy
              go_wp2_with fail
              go_quiet (fail)
              go_wp2_with fail
              go_roundw
              case rel => exact ⟨j + 1, d, _, by omega, by go_num, by rw [had.out], by omega, hd', rfl⟩
              case measure => simp [intOf]; omega
            · have h1 : (x != y) = true := by simpa using hxy
              have hd' : Hid (d + 1 = Kp.prI f k (j + 1)) := Lib.hid (by show d + 1 = Kp.prI f k j + _; rw [if_neg (by rw [← hxl.out, ← hyl.out]; exact hxy), ← hd.out])
              clear hxy
              go_wp2_with fail
              go_quiet (fail)
              go_wp2_with fail
              go_roundw
              case rel => exact ⟨j + 1, d + 1, _, by omega, by go_num, by rw [show a + (d + 1) = ad + 1 by rw [← had.out]; omega]; go_num, by omega, hd', rfl⟩
              case measure => simp [intOf]; omega
          · obtain rfl : j = k := by omega
            have ha' : Hid (ad = Kp.prN f (j + 1)) := Lib.hid (by show _ = Kp.prN f j + Kp.prI f j j; rw [← had.out, ← ha.out, ← hd.out])
            go_wp2_with fail
            go_roundw
            case rel => exact ⟨j + 1, ad, q, by omega, by go_num, rfl, ha', rfl⟩
            case measure => simp [intOf]; omega
      · obtain rfl : k = zs.length := by omega
        have hR : Hid (a = Kp.prL zs) := Lib.hid (by rw [hS.out, ha.out])
        go_wp2_with fail
        go_ret
        exact ⟨ret_int (by rw [hR.out]), bDrew (Below.refl _ _) q⟩
end Go.Proofs.Ytdfkgkgglldokaa
