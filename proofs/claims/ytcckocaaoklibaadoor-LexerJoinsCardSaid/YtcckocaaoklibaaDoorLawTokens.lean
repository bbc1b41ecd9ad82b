/- The law LexerTokens, walked. -/
import Derived.Test.YtcckocaaoklibaaDoorWc
import Derived.Test.YtcckocaaoklibaaDoorLex2
namespace Go.Proofs.YtcckocaaoklibaaDoor
open Go.RowKit
set_option linter.unusedVariables false

theorem bDrewN (w : World) (q : Nat) : Below w.heap.size w (w.drewN q) := bDrew (Below.refl _ _) q
set_option maxRecDepth 100000 in
set_option maxHeartbeats 4000000 in
theorem tokens_walk (s : ByteArray) (w : World) (hT : LexT w) : Calls Tryd.prog 4 #[.string s] w fun e w' => e = .returned (.bool true) ∧ Below w.heap.size w w' := by
  go_enter Tryd.func4, Tryd.ntmps4
  go_wp2_with fail
  refine (known_ok _ hT).mono ?_
  rintro e w1 ⟨rfl, b1⟩
  by_cases hbig : 9000 < s.size
  · have hbI : (9000 : Int) < (s.size : Int) := by omega
    go_wp2_with fail
    go_ret
    exact ⟨rfl, b1⟩
  have hbI : ¬ (9000 : Int) < (s.size : Int) := by omega
  have hsz : s.size ≤ 100000 := by omega
  go_wp2_with fail
  refine (lex_any s hsz _ (hT.below b1)).mono ?_
  unfold LexRes
  rintro e w2 ⟨b2, ⟨hx, rfl⟩ | ⟨hl, p, c, hx, hc, rfl⟩ | ⟨hl, hx, A, cap, rfl, hA⟩⟩
  · replace b1 := bTrans b1 b2
    clear b2
    go_wp2_with fail
    refine (rlex_any s hsz _ (hT.below b1)).mono ?_
    unfold LexRes
    rintro e w3 ⟨b3, ⟨_, rfl⟩ | ⟨hl, _⟩ | ⟨hl, _⟩⟩
    · replace b1 := bTrans b1 b3
      clear b3 hx
      go_wp2_with fail
      refine (same_eq none 0 none 0 [] _ ⟨Row.nil _ _ _⟩ ⟨Row.nil _ _ _⟩ (by simp)).mono ?_
      rintro e w4 ⟨rfl, q, rfl⟩
      go_wp2_with fail
      go_ret
      exact ⟨rfl, bTrans b1 (bDrewN _ q)⟩
    · omega
    · omega
  · replace b1 := bTrans b1 b2
    have HX := Lib.hid hx
    have HC := Lib.hid hc
    clear b2 hx hc
    go_wp2_with fail
    refine (rlex_any s hsz _ (hT.below b1)).mono ?_
    unfold LexRes
    rintro e w3 ⟨b3, ⟨hl2, _⟩ | ⟨_, p2, c2, hx2, _, rfl⟩ | ⟨_, hx2, _⟩⟩
    · omega
    · have := HX.out.symm.trans hx2
      injection this with this
      injection this with e1 e2
      subst e1 e2
      replace b1 := bTrans b1 b3
      clear b3 hx2
      go_wp2_with fail
      refine (same_eq none 0 none 0 [] _ ⟨Row.nil _ _ _⟩ ⟨Row.nil _ _ _⟩ (by simp)).mono ?_
      rintro e w4 ⟨rfl, q, rfl⟩
      go_wp2_with fail
      go_ret
      exact ⟨rfl, bTrans b1 (bDrewN _ q)⟩
    · have := HX.out.symm.trans hx2; cases this
  · replace b1 := bTrans b1 b2
    have HX := Lib.hid hx
    clear b2 hx
    go_wp2_with fail
    refine (rlex_any s hsz _ (hT.below b1)).mono ?_
    unfold LexRes
    rintro e w3 ⟨b3, ⟨hl2, _⟩ | ⟨_, p2, c2, hx2, _⟩ | ⟨_, _, A2, cap2, rfl, hA2⟩⟩
    · omega
    · have := HX.out.symm.trans hx2; cases this
    · have hA3 := hA.at b3
      replace b1 := bTrans b1 b3
      have hln : (Kx.lexA (bs s)).1.length ≤ 1000000 := by have := Kx.lexA_count (bs s); rw [bs_length] at this; omega
      clear b3 hA
      go_wp2_with fail
      refine (same_eq A cap A2 cap2 _ _ hA3 hA2 hln).mono ?_
      rintro e w4 ⟨rfl, q, rfl⟩
      go_wp2_with fail
      go_ret
      exact ⟨rfl, bTrans b1 (bDrewN _ q)⟩
end Go.Proofs.YtcckocaaoklibaaDoor
