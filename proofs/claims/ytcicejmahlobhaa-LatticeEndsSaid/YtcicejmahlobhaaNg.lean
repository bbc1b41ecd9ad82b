/- Walks: the reference's Bottom. -/
import Derived.Test.YtcicejmahlobhaaNf
namespace Go.Proofs.Ytcicejmahlobhaa
open Go.RowKit Go.Maps
set_option linter.unusedVariables false

set_option maxRecDepth 100000 in
set_option maxHeartbeats 1000000 in
theorem rbottom_ok (An : Option Addr) (n cn : Nat) (Al : Option Addr) (cl : Nat) (hn : n ≤ 12) (hn0 : 0 < n) (L : Nat → Nat → Bool) (hL : Kl.Lat L n) (w : World) (h : LeM w w.heap.size Al n L) :
    Calls Try.prog 30 #[rlV An n cn Al cl] w fun e w' => e = .returned (.int .i64 ((Kl.bot L n : Nat) : Int)) ∧ Below w.heap.size w w' := by
  have b0 : Below w.heap.size w (w.alloc (.cells #[.slice An n cn, .slice Al n cl] 32)) := (Below.refl _ _).alloc (Nat.le_refl _) _
  have h1 := h.at b0
  obtain ⟨hm1, hm2⟩ := hL.bot_is hn0
  have HM := Lib.hid hm2
  have HA := Lib.hid (fun k (hk : k < n) (e : L k (Kl.bot L n) = true) => hL.anti k (Kl.bot L n) hk hm1 e (hm2 k hk))
  clear hm2
  revert HM HA hm1
  generalize Kl.bot L n = m
  intro hm1 HM HA
  unfold rlV
  go_enter Try.func30, Try.ntmps30
  go_wp2_with fail
  have t0 : Two (w.alloc (.cells #[.slice An n cn, .slice Al n cl] 32)) w.heap.size (.slice An n cn) (.slice Al n cl) := Two.new_ _ _ _ _
  have x0 := t0.c0
  have x1 := t0.c1
  clear t0 h
  generalize w.alloc (.cells #[.slice An n cn, .slice Al n cl] 32) = w1 at *
  go_loop [3, 4] (fun bv av => ∃ a b : Nat, a ≤ n ∧ b < n ∧ av = .int .i64 (a : Int) ∧ bv = .int .i64 (b : Int) ∧ Hid (m < a → b = m)) (fun _ av => n - (intOf av).toNat)
  case atStart => exact ⟨0, 0, Nat.zero_le _, hn0, rfl, rfl, Lib.hid fun e => by omega⟩
  case round =>
    obtain ⟨a, b, ha, hb, rfl, rfl, hinv⟩ := hrel
    by_cases hal : a < n
    · obtain ⟨bk, off, ga, rfl, hbb, hra, hga, hca⟩ := h1.at_ hal
      have hc := hca.out b hb
      have haI : (a : Int) < (n : Int) := by omega
      have hbI : (b : Int) < (n : Int) := by omega
      cases hB : L a b with
      | true =>
        have hR : Hid (m < a + 1 → a = m) := Lib.hid fun e => by
          by_cases q : m < a
          · have := hinv.out q
            subst this
            exact HA.out a hal hB
          · omega
        rw [hB] at hc
        clear hB
        go_wp2_with fail
        go_round
        case rel => exact ⟨a + 1, a, by omega, hal, by go_num, rfl, hR⟩
        case measure => simp [intOf]; omega
      | false =>
        have hR : Hid (m < a + 1 → b = m) := Lib.hid fun e => by
          by_cases q : m < a
          · exact hinv.out q
          · have q2 : m = a := by omega
            subst q2
            rw [HM.out b hb] at hB; cases hB
        rw [hB] at hc
        clear hB
        go_wp2_with fail
        go_round
        case rel => exact ⟨a + 1, b, by omega, hb, by go_num, rfl, hR⟩
        case measure => simp [intOf]; omega
    · obtain rfl : a = n := by omega
      have hbm := hinv.out hm1
      subst hbm
      go_wp2_with fail
      go_ret
      exact ⟨rfl, b0⟩
end Go.Proofs.Ytcicejmahlobhaa
