/- The law LexerAppends, walked. -/
import Derived.Test.YtcckocaaoklibaaDoorLawPrefix
import Derived.Test.YtcckocaaoklibaaDoorW7c
namespace Go.Proofs.YtcckocaaoklibaaDoor
open Go.RowKit
set_option linter.unusedVariables false

theorem lex_weak (s : ByteArray) (hs : s.size ≤ 100000) (w : World) (hT : LexT w) : Calls Tryd.prog 19 #[.string s] w fun e w' =>
    Below w.heap.size w w' ∧ ∃ (v : Value) (p c : Int), e = .returned (.tuple #[v, .int .i64 p, .int .i64 c]) := by
  refine (lex_any s hs w hT).mono ?_
  unfold LexRes
  rintro e w2 ⟨b2, ⟨hx, rfl⟩ | ⟨hl, p, c, hx, hc, rfl⟩ | ⟨hl, hx, A, cap, rfl, hA⟩⟩
  · exact ⟨b2, _, _, _, rfl⟩
  · exact ⟨b2, _, _, _, rfl⟩
  · exact ⟨b2, _, _, _, rfl⟩
theorem Kx.cov_pos {S : List UInt8} : ∀ (ts : List Kx.Tk) (E : Nat), Kx.Cov S E ts → ∀ k, (h : k < ts.length) → ts[k].pos ≤ S.length
  | [], _, _, k, h => absurd h (by simp)
  | t :: ts, E, ⟨_, _, h3, _, _, h6⟩, k, h => by
    cases k with
    | zero => show t.pos ≤ S.length; omega
    | succ k => exact Kx.cov_pos ts _ h6 k (by simpa using h)
theorem bs_nl (s t : ByteArray) : bs (s ++ ⟨#[10]⟩ ++ t) = bs s ++ 10 :: bs t := by
  rw [bs_append, bs_append, List.append_assoc]; rfl
theorem nl_size (s t : ByteArray) : (s ++ ⟨#[10]⟩ ++ t).size = s.size + t.size + 1 := by
  rw [← bs_length, bs_nl, List.length_append, List.length_cons, bs_length, bs_length]; omega
set_option maxRecDepth 100000 in
set_option maxHeartbeats 1000000 in
theorem appends_walk (s t : ByteArray) (w : World) (hT : LexT w) : Calls Tryd.prog 10 #[.string s, .string t] w fun e w' => e = .returned (.bool true) ∧ Below w.heap.size w w' := by
  go_enter Tryd.func10, Tryd.ntmps10
  go_wp2_with fail
  refine (known_ok _ hT).mono ?_
  rintro e w1 ⟨rfl, b1⟩
  by_cases hbig : 2000 < s.size
  · have hbI : (2000 : Int) < (s.size : Int) := by omega
    go_wp2_with fail
    go_ret
    exact ⟨rfl, b1⟩
  have hbI : ¬ (2000 : Int) < (s.size : Int) := by omega
  by_cases hbig2 : 2000 < t.size
  · have hbI2 : (2000 : Int) < (t.size : Int) := by omega
    go_wp2_with fail
    go_ret
    exact ⟨rfl, b1⟩
  have hbI2 : ¬ (2000 : Int) < (t.size : Int) := by omega
  have hs : s.size ≤ 100000 := by omega
  have ht : t.size ≤ 100000 := by omega
  have hn : (s ++ ⟨#[10]⟩ ++ t).size ≤ 100000 := by rw [nl_size]; omega
  have HSL := Lib.hid (bs_length s)
  have HTL := Lib.hid (bs_length t)
  have HNL := Lib.hid (bs_nl s t)
  have HNS := Lib.hid (nl_size s t)
  go_wp2_with fail
  refine (lex_any s hs _ (hT.below b1)).mono ?_
  unfold LexRes
  rintro e w2 ⟨b2, ⟨hx, rfl⟩ | ⟨hl, p, c, hx, hc, rfl⟩ | ⟨hl, hx, A, cap, rfl, hA⟩⟩
  · have := HSL.out; omega
  · have hcb2 : (c != 0) = true := by simpa using hc
    replace b1 := bTrans b1 b2
    clear b2 hx hc
    go_wp2_with fail
    refine (lex_weak t ht _ (hT.below b1)).mono ?_
    rintro e w3 ⟨b2, v, p2, c2, rfl⟩
    replace b1 := bTrans b1 b2
    clear b2
    go_wp2_with fail
    refine (lex_weak _ ?hnn _ (hT.below b1)).mono ?_
    case hnn => exact hn
    rintro e w4 ⟨b2, v3, p3, c3, rfl⟩
    replace b1 := bTrans b1 b2
    clear b2
    go_wp2_with fail
    go_ret
    exact ⟨rfl, b1⟩
  have HAP := Lib.hid (Kx.lexA_app (t := bs t) hx)
  have hla : (Kx.lexA (bs s)).1.length ≤ 2000 := by have := Kx.lexA_count (bs s); rw [bs_length] at this; omega
  replace b1 := bTrans b1 b2
  clear b2 hx
  revert HAP hA hla
  generalize (Kx.lexA (bs s)).1 = ts
  intro hA HAP hla
  go_wp2_with fail
  refine (lex_any t ht _ (hT.below b1)).mono ?_
  unfold LexRes
  rintro e w3 ⟨b2, ⟨hx, rfl⟩ | ⟨hl, p, c, hx, hc, rfl⟩ | ⟨hl, hx, A2, cap2, rfl, hA2⟩⟩
  · have := HTL.out; omega
  · have HX := Lib.hid hx
    have HC := Lib.hid hc
    have hcb2 : (c != 0) = true := by simpa using hc
    replace b1 := bTrans b1 b2
    have hpm : p ≤ t.size := by have := (Kx.lexA_prefix hx).1; rw [bs_length] at this; exact this
    clear b2 hx hc hA
    go_wp2_with fail
    refine (lex_any _ ?hnn _ (hT.below b1)).mono ?_
    case hnn => exact hn
    unfold LexRes
    rw [HNL.out]
    rintro e w4 ⟨b2, ⟨hx, rfl⟩ | ⟨_, p3, c3, hx, _, rfl⟩ | ⟨_, hx, _⟩⟩
    · exfalso
      have h1 := HNL.out
      rw [← h1, bs_length, HNS.out] at hx
      omega
    · rw [HAP.out, HX.out] at hx
      injection hx with hx
      injection hx with e1 e2
      subst e1 e2
      have e3 : ((p : Int) + (((bs s).length : Int) + 1) == (p : Int) + (s.size : Int) + 1) = true := by rw [HSL.out, beq_iff_eq]; omega
      replace b1 := bTrans b1 b2
      clear b2
      go_wp2_with fail
      go_ret
      exact ⟨rfl, b1⟩
    · rw [HAP.out, HX.out] at hx; cases hx
  · have HX := Lib.hid hx
    have hA3 := hA.at b2
    have hlb : (Kx.lexA (bs t)).1.length ≤ 2000 := by have := Kx.lexA_count (bs t); rw [bs_length] at this; omega
    have hps := Kx.cov_pos _ _ (Kx.lexA_cov hx)
    rw [HTL.out] at hps
    have HPS := Lib.hid hps
    replace b1 := bTrans b1 b2
    clear b2 hx hA hps
    go_wp2_with fail
    refine (lex_cap _ ?hnn _ (hT.below b1)).mono ?_
    case hnn => exact hn
    unfold LexCap
    rw [HNL.out, HAP.out, HX.out, HSL.out]
    clear HAP HX HNL
    rintro e w4 ⟨b2, ⟨hx, rfl⟩ | ⟨_, p3, c3, hx, _, rfl⟩ | ⟨_, hx, A3, cap3, rfl, hA4, hcap⟩⟩
    · exfalso
      rw [List.length_append, List.length_cons, HSL.out, HTL.out] at hx
      omega
    · cases hx
    · clear hx
      rename_i hA2' _
      have hB := hA2.at b2
      have hA5 := hA3.at b2
      replace b1 := bTrans b1 b2
      clear b2 hA2 hA3
      dsimp only at hA4 hcap
      rw [List.length_append, List.length_map] at hcap
      have HLL : (ts ++ (Kx.lexA (bs t)).1.map (Kx.shT (s.size + 1))).length = ts.length + (Kx.lexA (bs t)).1.length := by rw [List.length_append, List.length_map]
      dsimp only
      rw [HLL]
      clear HLL
      revert hB hA4 hlb hcap HPS
      generalize (Kx.lexA (bs t)).1 = us
      intro hlb HPS hC hcap hB
      have hcI : (ts.length : Int) ≤ (cap3 : Int) := by omega
      have hpre := hC.pre
      go_wp2_with fail
      refine (same_eq A cap A3 cap3 ts w4 hA5 hpre (by omega)).mono ?_
      rintro e w5 ⟨rfl, q, rfl⟩
      have bq := bDrewN w4 q
      replace hC := hC.at bq
      replace hB := hB.at bq
      replace b1 := bTrans b1 bq
      clear bq hpre hA5
      revert hC hB b1
      generalize w4.drewN q = w6
      intro hC hB b1
      go_wp2_with fail
      go_loopw [84] (fun kv wr => ∃ k : Nat, k ≤ us.length ∧ kv = .int .i64 (k : Int) ∧ Below w6.heap.size w6 wr) (fun kv _ => us.length - (intOf kv).toNat)
      case atStart => exact ⟨0, Nat.zero_le _, rfl, Below.refl _ _⟩
      case round =>
        obtain ⟨k, hk, rfl, bw⟩ := hrel
        by_cases hlt : k < us.length
        · have hltI : (k : Int) < (us.length : Int) := by omega
          obtain ⟨b, off, rfl, hb, c0, c1, c2⟩ := (hB.at bw).at_ hlt
          obtain ⟨b', off', rfl, hb', d0, d1, d2⟩ := (hC.at bw).at_sh hlt
          have hz : us[k].pos ≤ 2000 := Nat.le_trans (HPS.out k hlt) (by omega)
          rw [show ((s.size + 1 : Nat) : Int) = (s.size : Int) + 1 by omega] at d2
          revert c0 c1 c2 d0 d1 d2 hz
          generalize us[k].kind = x
          generalize mkB us[k].text = y
          generalize us[k].pos = z
          intro c0 c1 c2 d0 d1 d2 hz
          go_upto_region 21 with (fail)
          have ba := al1 wr (.cells #[.int .i64 x, .string y, .int .i64 ((z : Int) + ((s.size : Int) + 1))] 40)
          have bw2 := bTrans bw ba
          have e0 : (wr.alloc (.cells #[.int .i64 x, .string y, .int .i64 ((z : Int) + ((s.size : Int) + 1))] 40)).cell? ⟨wr.heap.size, 0, none⟩ = some (.int .i64 x) := by rw [cell_of_row _ _ _ _ _ _ (heap_alloc_new wr _)]; rfl
          have e1 : (wr.alloc (.cells #[.int .i64 x, .string y, .int .i64 ((z : Int) + ((s.size : Int) + 1))] 40)).cell? ⟨wr.heap.size, 1, none⟩ = some (.string y) := by rw [cell_of_row _ _ _ _ _ _ (heap_alloc_new wr _)]; rfl
          have e2 : (wr.alloc (.cells #[.int .i64 x, .string y, .int .i64 ((z : Int) + ((s.size : Int) + 1))] 40)).cell? ⟨wr.heap.size, 2, none⟩ = some (.int .i64 ((z : Int) + ((s.size : Int) + 1))) := by rw [cell_of_row _ _ _ _ _ _ (heap_alloc_new wr _)]; rfl
          replace d0 := (ba.cell (p := ⟨b', off' + (ts.length + k) * 3, none⟩) hb').trans d0
          replace d1 := (ba.cell (p := ⟨b', off' + (ts.length + k) * 3 + 1, none⟩) hb').trans d1
          replace d2 := (ba.cell (p := ⟨b', off' + (ts.length + k) * 3 + 2, none⟩) hb').trans d2
          clear c0 c1 c2 hb hb' ba
          revert bw2 d0 d1 d2 e0 e1 e2
          generalize wr.alloc (.cells #[.int .i64 x, .string y, .int .i64 ((z : Int) + ((s.size : Int) + 1))] 40) = W
          generalize wr.heap.size = bx
          intro bw2 e0 e1 e2 d0 d1 d2
          generalize (z : Int) + ((s.size : Int) + 1) = zz at d2 e2
          have eqt : ∀ W, (Op.equalIn 10000 40 (.agg #[.int .i64 x, .string y, .int .i64 zz]) (.agg #[.int .i64 x, .string y, .int .i64 zz])).run Tryd.prog W = .ok true W := fun W => by rw [tok_cmp]; simp
          have gt := Tryd.eqGuardType40
          have ltk : ((ts.length : Int) + (k : Int)).toNat = ts.length + k := by omega
          go_quiet (fail)
          go_wp2_with fail
          go_roundw
          case rel => exact ⟨k + 1, by omega, by go_num, bDrew bw2 _⟩
          case measure => simp [intOf]; omega
        · obtain rfl : k = us.length := by omega
          go_wp2_with fail
          go_ret
          exact ⟨rfl, bTrans b1 bw⟩
end Go.Proofs.YtcckocaaoklibaaDoor
