/- Walks: the reference's Join. -/
import Derived.Test.YtcckocaaoklibaaDoorWe
namespace Go.Proofs.YtcckocaaoklibaaDoor
open Go.RowKit
set_option linter.unusedVariables false

theorem mkB_app (a b : List UInt8) : mkB a ++ mkB b = mkB (a ++ b) := bs_inj (by rw [bs_append, bs_mk, bs_mk, bs_mk])
set_option maxRecDepth 100000 in
set_option maxHeartbeats 1000000 in
theorem rjoin_any (A : Option Addr) (c : Nat) (ts : List Kx.Tk) (w : World) (hA : Toks w w.heap.size A ts) (hl : ts.length ≤ 9000) (hlen : (Kx.jn ts).length ≤ 100000) :
    Calls Tryd.prog 25 #[.slice A ts.length c] w fun e w' => e = .returned (.string (mkB (Kx.jn ts))) ∧ w = w' := by
  go_enter Tryd.func25, Tryd.ntmps25
  go_wp2_with fail
  go_loop [3, 4] (fun sv kv => ∃ k : Nat, ∃ S : ByteArray, k ≤ ts.length ∧ kv = .int .i64 (k : Int) ∧ sv = .string S ∧ Hid (S = mkB (Kx.jn (ts.take k)))) (fun _ kv => ts.length - (intOf kv).toNat)
  case atStart => exact ⟨0, ⟨#[]⟩, Nat.zero_le _, rfl, rfl, Lib.hid rfl⟩
  case round =>
    obtain ⟨k, S, hk, rfl, rfl, HS⟩ := hrel
    by_cases hlt : k < ts.length
    · have hltI : (k : Int) < (ts.length : Int) := by omega
      obtain ⟨b, off, rfl, hb, c0, c1, c2⟩ := hA.at_ hlt
      have hst := Kx.jn_step ts hlt
      have hs1 : S.size ≤ 100000 := by
        rw [HS.out, mk_size]; exact Nat.le_trans (Kx.jn_mono ts k) hlen
      have hs2 : (mkB ts[k].text).size ≤ 100000 := by
        have h1 := Kx.jn_mono ts (k + 1)
        rw [hst, List.length_append] at h1
        rw [mk_size]; omega
      clear c0 c2
      by_cases h0 : 0 < k
      · have h0I : (0 : Int) < (k : Int) := by omega
        rw [if_pos h0] at hst
        have HST : Hid (S ++ ⟨#[32]⟩ ++ mkB ts[k].text = mkB (Kx.jn (ts.take (k + 1)))) := Lib.hid (by
          rw [HS.out, hst, show (⟨#[32]⟩ : ByteArray) = mkB [32] from rfl, mkB_app, mkB_app])
        clear hst HS
        revert c1 HST hs2
        generalize mkB ts[k].text = y
        intro c1 hs2 HST
        go_wp2_with fail
        go_round
        case rel => exact ⟨k + 1, _, by omega, by go_num, rfl, HST⟩
        case measure => simp [intOf]; omega
      · have h0I : ¬ (0 : Int) < (k : Int) := by omega
        rw [if_neg h0] at hst
        have HST : Hid (S ++ mkB ts[k].text = mkB (Kx.jn (ts.take (k + 1)))) := Lib.hid (by
          rw [HS.out, hst, mkB_app])
        clear hst HS
        revert c1 HST hs2
        generalize mkB ts[k].text = y
        intro c1 hs2 HST
        go_wp2_with fail
        go_round
        case rel => exact ⟨k + 1, _, by omega, by go_num, rfl, HST⟩
        case measure => simp [intOf]; omega
    · obtain rfl : k = ts.length := by omega
      have HT : Hid (S = mkB (Kx.jn ts)) := Lib.hid (by rw [HS.out, List.take_length])
      clear HS
      go_wp2_with fail
      go_ret
      exact ⟨ret_str HT.out, rfl⟩
end Go.Proofs.YtcckocaaoklibaaDoor
