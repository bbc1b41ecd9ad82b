/- The law LexerJoins, walked. -/
import Derived.Test.YtcckocaaoklibaaDoorWf
import Derived.Test.YtcckocaaoklibaaDoorLawPrefix
namespace Go.Proofs.YtcckocaaoklibaaDoor
open Go.RowKit
set_option linter.unusedVariables false

set_option maxRecDepth 100000 in
set_option maxHeartbeats 1000000 in
theorem joins_walk (s : ByteArray) (w : World) (hT : LexT w) : Calls Tryd.prog 6 #[.string s] w fun e w' => e = .returned (.bool true) ∧ Below w.heap.size w w' := by
  go_enter Tryd.func6, Tryd.ntmps6
  go_wp2_with fail
  refine (known_ok _ hT).mono ?_
  rintro e w1 ⟨rfl, b1⟩
  by_cases hbig : 4000 < s.size
  · have hbI : (4000 : Int) < (s.size : Int) := by omega
    go_wp2_with fail
    go_ret
    exact ⟨rfl, b1⟩
  have hbI : ¬ (4000 : Int) < (s.size : Int) := by omega
  have hsz : s.size ≤ 100000 := by omega
  go_wp2_with fail
  refine (lex_two s hsz _ (hT.below b1)).mono ?_
  rintro e w2 ⟨b2, ⟨p, c, hp, hp2, hc, hn, rfl⟩ | ⟨hx, A, cap, rfl, hA⟩⟩
  · have hcb : (c == 0) = false := by simpa using hc
    have hcb2 : (c != 0) = true := by simpa using hc
    go_wp2_with fail
    go_ret
    exact ⟨rfl, bTrans b1 b2⟩
  have hjl := Kx.jn_len hx
  rw [bs_length] at hjl
  have HJ := Lib.hid (Kx.lexA_jn hx)
  have hln : (Kx.lexA (bs s)).1.length ≤ 4000 := by have := Kx.lexA_count (bs s); rw [bs_length] at this; omega
  replace b1 := bTrans b1 b2
  clear b2 hx
  generalize (Kx.lexA (bs s)).1 = ts at *
  have hjl2 : (Kx.jn ts).length ≤ 8000 := by omega
  have hjs : (mkB (Kx.jn ts)).size ≤ 100000 := by rw [mk_size]; omega
  have HRJ := Lib.hid (fun W (h : Toks W W.heap.size A ts) => rjoin_any A cap ts W h (by omega) (by omega))
  go_wp2_with fail
  refine (join_any A cap ts w2 hA (by omega) (by omega)).mono ?_
  rintro e w3 ⟨rfl, b2⟩
  have hA2 := hA.at b2
  replace b1 := bTrans b1 b2
  clear b2 hA
  go_wp2_with fail
  refine (lex_any _ hjs _ (hT.below b1)).mono ?_
  unfold LexRes
  rw [bs_mk]
  rintro e w4 ⟨b2, ⟨hx, rfl⟩ | ⟨_, p, c, hx, _⟩ | ⟨_, _, B, d, rfl, hB⟩⟩
  · omega
  · have := HJ.out.1.symm.trans hx; cases this
  have hA3 := hA2.at b2
  replace b1 := bTrans b1 b2
  have hkl := Kx.kt_len HJ.out.2
  have hal := alike_eq A cap B d ts _ hkl.symm (fun j h h' => Kx.kt_at HJ.out.2.symm h h') w4 hA3 hB (by omega)
  clear b2 hA2 hB hkl
  revert hal
  generalize (Kx.lexA (Kx.jn ts)).1.length = n
  intro hal
  go_wp2_with fail
  refine hal.mono ?_
  rintro e w5 ⟨rfl, q, rfl⟩
  have bq := bDrewN w4 q
  have hA4 := hA3.at bq
  have b3 := bTrans b1 bq
  have hr := HRJ.out _ hA4
  clear hal hA3 hA4 bq HRJ
  revert hr b3
  generalize mkB (Kx.jn ts) = y at *
  intro b3 hr
  have q3 : (y.toList == y.toList) = true := by simp
  go_wp2_with fail
  refine hr.mono ?_
  rintro e w6 ⟨rfl, rfl⟩
  go_wp2_with fail
  go_ret
  exact ⟨rfl, b3⟩
end Go.Proofs.YtcckocaaoklibaaDoor
