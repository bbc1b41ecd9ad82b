/- The law LexerPrefix, walked. -/
import Derived.Test.YtcckocaaoklibaaDoorLawTokens
import Derived.Test.YtcckocaaoklibaaDoorLex3
namespace Go.Proofs.YtcckocaaoklibaaDoor
open Go.RowKit
set_option linter.unusedVariables false

theorem lex_two (s : ByteArray) (hs : s.size ≤ 100000) (w : World) (hT : LexT w) : Calls Tryd.prog 19 #[.string s] w fun e w' =>
    Below w.heap.size w w' ∧ ((∃ (p : Nat) (c : Int), p ≤ s.size ∧ p ≤ 8192 ∧ c ≠ 0 ∧ (Kx.lexA ((bs s).take p)).2 = none ∧ e = .returned (.tuple #[.slice none 0 0, .int .i64 (p : Int), .int .i64 c])) ∨
    ((Kx.lexA (bs s)).2 = none ∧ ∃ A cap, e = .returned (.tuple #[.slice A (Kx.lexA (bs s)).1.length cap, .int .i64 0, .int .i64 0]) ∧ Toks w' w'.heap.size A (Kx.lexA (bs s)).1)) := by
  refine (lex_any s hs w hT).mono ?_
  unfold LexRes
  rintro e w2 ⟨b2, ⟨hx, rfl⟩ | ⟨hl, p, c, hx, hc, rfl⟩ | ⟨hl, hx, A, cap, rfl, hA⟩⟩
  · exact ⟨b2, .inl ⟨0, 5, Nat.zero_le _, Nat.zero_le _, by decide, rfl, rfl⟩⟩
  · have h := Kx.lexA_prefix hx
    have := h.1
    exact ⟨b2, .inl ⟨p, c, by rw [bs_length] at this; exact this, by omega, hc, h.2, rfl⟩⟩
  · exact ⟨b2, .inr ⟨hx, A, cap, rfl, hA⟩⟩
set_option maxRecDepth 100000 in
set_option maxHeartbeats 4000000 in
theorem prefix_walk (s : ByteArray) (w : World) (hT : LexT w) : Calls Tryd.prog 9 #[.string s] w fun e w' => e = .returned (.bool true) ∧ Below w.heap.size w w' := by
  go_enter Tryd.func9, Tryd.ntmps9
  go_wp2_with fail
  refine (known_ok _ hT).mono ?_
  rintro e w1 ⟨rfl, b1⟩
  by_cases hbig : 9000 < s.size
  · have hbI : (9000 : Int) < (s.size : Int) := by omega
    go_wp2_with fail
    go_ret
    exact ⟨rfl, b1⟩
  have hbI : ¬ (9000 : Int) < (s.size : Int) := by omega
  have hsz : s.size ≤ 100000 := by omega
  go_wp2_with fail
  refine (lex_two s hsz _ (hT.below b1)).mono ?_
  rintro e w2 ⟨b2, ⟨p, c, hp, hp2, hc, hn, rfl⟩ | ⟨hx, A, cap, rfl, hA⟩⟩
  · replace b1 := bTrans b1 b2
    have hpI : ¬ (s.size : Int) < (p : Int) := by omega
    have hpI2 : (p : Int) ≤ (s.size : Int) := by omega
    have hcb : (c == 0) = false := by simpa using hc
    have HX : Hid ((Kx.lexA (bs (s.extract 0 p))).2 = none) := Lib.hid (by rw [bs_extract, List.drop_zero]; exact hn)
    have hsz3 : (s.extract 0 p).size ≤ 8192 := by rw [ByteArray.size_extract]; omega
    have hsz2 : (s.extract 0 p).size ≤ 100000 := by omega
    clear b2 hc hn
    go_wp2_with fail
    refine (lex_any (s.extract 0 p) hsz2 _ (hT.below b1)).mono ?_
    have HS3 := Lib.hid hsz3
    clear hsz3
    unfold LexRes
    rintro e w3 ⟨b3, ⟨hl2, _⟩ | ⟨_, p2, c2, hx2, _⟩ | ⟨_, _, A, cap, rfl, hA⟩⟩
    · have := HS3.out
      rw [bs_length] at hl2; omega
    · have := HX.out.symm.trans hx2; cases this
    · replace b1 := bTrans b1 b3
      clear b3
      go_wp2_with fail
      refine (rlex_any (s.extract 0 p) hsz2 _ (hT.below b1)).mono ?_
      unfold LexRes
      rintro e w4 ⟨b4, ⟨hl2, _⟩ | ⟨_, p2, c2, hx2, _⟩ | ⟨_, _, A2, cap2, rfl, hA2⟩⟩
      · have := HS3.out
        rw [bs_length] at hl2; omega
      · have := HX.out.symm.trans hx2; cases this
      · have hA3 := hA.at b4
        replace b1 := bTrans b1 b4
        have hln : (Kx.lexA (bs (s.extract 0 p))).1.length ≤ 1000000 := by
          have := Kx.lexA_count (bs (s.extract 0 p)); rw [bs_length] at this; have := HS3.out; omega
        clear b4 hA
        go_wp2_with fail
        refine (same_eq A cap A2 cap2 _ _ hA3 hA2 hln).mono ?_
        rintro e w4 ⟨rfl, q, rfl⟩
        go_wp2_with fail
        go_ret
        exact ⟨rfl, bTrans b1 (bDrewN _ q)⟩
  · replace b1 := bTrans b1 b2
    go_wp2_with fail
    go_ret
    exact ⟨rfl, b1⟩
end Go.Proofs.YtcckocaaoklibaaDoor
