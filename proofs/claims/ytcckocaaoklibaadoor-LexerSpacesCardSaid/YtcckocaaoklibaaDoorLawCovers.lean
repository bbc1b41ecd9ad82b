/- The law LexerCovers, walked. -/
import Derived.Test.YtcckocaaoklibaaDoorLawPrefix
namespace Go.Proofs.YtcckocaaoklibaaDoor
open Go.RowKit
set_option linter.unusedVariables false

theorem quiet_of_eq {P : Program} {f : FuncId} {args : Array Value} {w : World} {n : Nat} {v : Value}
    (h : Calls P f args (w.drewN n) fun e w' => e = .returned v ∧ w.drewN n = w') : Calls P f args (w.drewN n) fun e w'' => e = .returned v ∧ ∃ m, w'' = w.drewN m :=
  h.mono fun _ _ ⟨he, hm⟩ => ⟨he, n, hm.symm⟩
theorem empty_at (s : ByteArray) (a b : Nat) (hb : b ≤ s.size) (hs : s.size ≤ 100000) (h : Kx.skipL false (((bs s).take b).drop a) = []) (W : World) :
    Calls Tryd.prog 22 #[.string (s.extract a b)] W fun e w' => e = .returned (.bool true) ∧ W = w' :=
  empty_eq _ (by rw [ByteArray.size_extract]; omega) (by rw [bs_extract]; exact h) W
theorem text_at {s : ByteArray} {a n : Nat} {t : List UInt8} (h : ((bs s).drop a).take n = t) : s.extract a (a + n) = mkB t := bs_inj (by rw [bs_mk, bs_extract, List.drop_take, show a + n - a = n by omega]; exact h)
set_option maxRecDepth 100000 in
set_option maxHeartbeats 4000000 in
theorem covers_walk (s : ByteArray) (w : World) (hT : LexT w) : Calls Tryd.prog 5 #[.string s] w fun e w' => e = .returned (.bool true) ∧ Below w.heap.size w w' := by
  go_enter Tryd.func5, Tryd.ntmps5
  go_wp2_with fail
  refine (known_ok _ hT).mono ?_
  rintro e w1 ⟨rfl, b1⟩
  by_cases hbig : 9000 < s.size
  · have hbI : (9000 : Int) < (s.size : Int) := by omega
    go_wp2_with fail
    go_ret
    exact ⟨rfl, b1⟩
  have hbI : ¬ (9000 : Int) < (s.size : Int) := by omega
  have hsz : s.size ≤ 100000 := by omega
  go_wp2_with fail
  refine (lex_two s hsz _ (hT.below b1)).mono ?_
  rintro e w2 ⟨b2, ⟨p, c, hp, hp2, hc, hn, rfl⟩ | ⟨hx, A, cap, rfl, hA⟩⟩
  · have hcb : (c == 0) = false := by simpa using hc
    have hcb2 : (c != 0) = true := by simpa using hc
    go_wp2_with fail
    go_ret
    exact ⟨rfl, bTrans b1 b2⟩
  have hC := Kx.lexA_cov hx
  have hln : (Kx.lexA (bs s)).1.length ≤ 9000 := by have := Kx.lexA_count (bs s); rw [bs_length] at this; omega
  have B2 := bTrans b1 b2
  have HC : Hid (Kx.Cov (bs s) 0 ((Kx.lexA (bs s)).1.drop 0)) := Lib.hid hC
  clear hC b1 b2 hx hT
  revert hA HC hln
  generalize (Kx.lexA (bs s)).1 = ts
  intro hA hln HC
  go_wp2_with fail
  go_loopw [6, 24] (fun ev kv wr => ∃ k E : Nat, k ≤ ts.length ∧ E ≤ s.size ∧ kv = .int .i64 (k : Int) ∧ ev = .int .i64 (E : Int) ∧ Below w2.heap.size w2 wr ∧ Hid (Kx.Cov (bs s) E (ts.drop k))) (fun _ kv _ => ts.length - (intOf kv).toNat)
  case atStart => exact ⟨0, 0, Nat.zero_le _, Nat.zero_le _, rfl, rfl, Below.refl _ _, HC⟩
  case round =>
    obtain ⟨k, E, hk, hE, rfl, rfl, bw, HQ⟩ := hrel
    by_cases hlt : k < ts.length
    · have hltI : (k : Int) < (ts.length : Int) := by omega
      have hA2 := hA.at bw
      obtain ⟨b, off, rfl, hb, c0, c1, c2⟩ := hA2.at_ hlt
      have hq := HQ.out
      rw [List.drop_eq_getElem_cons hlt] at hq
      obtain ⟨h1, h2, h3, h4, h5, h6⟩ := hq
      have HQ2 := Lib.hid h6
      have h4s := text_at h4
      rw [bs_length] at h3
      have hem := empty_at s E ts[k].pos (by omega) hsz h5
      have hln2 : (mkB ts[k].text).size = ts[k].text.length := mk_size _
      have hne : 0 < (mkB ts[k].text).size := by rw [hln2]; exact List.length_pos_iff.2 h2
      rw [← hln2] at h3 h4s HQ2
      clear h2 h4 h5 h6 hln2 HQ
      revert h1 h3 h4s HQ2 hem hne c0 c1 c2
      generalize ts[k].kind = x
      generalize mkB ts[k].text = y
      generalize ts[k].pos = z
      intro c0 c1 c2 h1 h3x h4x h5x h6x h7x
      go_upto_region 12 with (fail)
      have bw2 := bTrans bw (al1 wr (.cells #[.int .i64 x, .string y, .int .i64 (z : Int)] 40))
      have d0 : (wr.alloc (.cells #[.int .i64 x, .string y, .int .i64 (z : Int)] 40)).cell? ⟨wr.heap.size, 0, none⟩ = some (.int .i64 x) := by rw [cell_of_row _ _ _ _ _ _ (heap_alloc_new wr _)]; rfl
      have d1 : (wr.alloc (.cells #[.int .i64 x, .string y, .int .i64 (z : Int)] 40)).cell? ⟨wr.heap.size, 1, none⟩ = some (.string y) := by rw [cell_of_row _ _ _ _ _ _ (heap_alloc_new wr _)]; rfl
      have d2 : (wr.alloc (.cells #[.int .i64 x, .string y, .int .i64 (z : Int)] 40)).cell? ⟨wr.heap.size, 2, none⟩ = some (.int .i64 (z : Int)) := by rw [cell_of_row _ _ _ _ _ _ (heap_alloc_new wr _)]; rfl
      clear c0 c1 c2 hb
      revert bw2 d0 d1 d2
      generalize wr.alloc (.cells #[.int .i64 x, .string y, .int .i64 (z : Int)] 40) = W
      intro bw2 d0 d1 d2
      have zI : ((z : Int) < (E : Int)) = False := by simp; omega
      have z1 : ((y.size : Int) == 0) = false := beq_eq_false_iff_ne.2 (by omega)
      have z2 : ((s.size : Int) - (y.size : Int) < (z : Int)) = False := by simp; omega
      have z3 : (y.toList != y.toList) = false := by simp
      have z4 : (z : Int) + (y.size : Int) ≤ (s.size : Int) := by omega
      have z5 : (E : Int) ≤ (z : Int) := by omega
      have z6 : ((z : Int) + (y.size : Int)).toNat = z + y.size := by omega
      have hzs : z ≤ 9000 := by omega
      have hys : y.size ≤ 9000 := by omega
      generalize wr.heap.size = bx at d0 d1 d2 ⊢
      go_quiet ((go_at_call 22; exact quiet_of_eq (h6x _)))
      go_wp2_with fail
      go_roundw
      case rel => exact ⟨k + 1, z + y.size, by omega, by omega, by go_num, by go_num, bDrew bw2 _, h4x⟩
      case measure => simp [intOf]; omega
    · obtain rfl : k = ts.length := by omega
      have hq := HQ.out
      rw [List.drop_of_length_le (Nat.le_refl _)] at hq
      have hem := empty_at s E s.size (Nat.le_refl _) hsz (by rw [List.take_of_length_le (by rw [bs_length]; exact Nat.le_refl _)]; exact hq.2)
      clear hq
      have hEI : (E : Int) ≤ (s.size : Int) := by omega
      go_wp2_with fail
      refine (hem _).mono ?_
      rintro e w4 ⟨rfl, rfl⟩
      go_wp2_with fail
      go_ret
      exact ⟨rfl, bTrans B2 bw⟩
end Go.Proofs.YtcckocaaoklibaaDoor
