/- The law LexerSpaces, walked. -/
import Derived.Test.YtcckocaaoklibaaDoorLawCovers
import Derived.Test.YtcckocaaoklibaaDoorLex4
import Derived.Deep.RegionWith
import Derived.Deep.DeepCutAuto
namespace Go.Proofs.YtcckocaaoklibaaDoor
open Go.RowKit
set_option linter.unusedVariables false

theorem bs_sp (s : ByteArray) (E : Nat) : bs (s.extract 0 E ++ ⟨#[9, 35, 59, 32, 36, 10, 32]⟩ ++ s.extract E s.size) = (bs s).take E ++ (Kx.nopW ++ (bs s).drop E) := by
  rw [bs_append, bs_append, ext_to, ext_from, bs_mk, bs_mk, List.append_assoc]; rfl
theorem sp_size (s : ByteArray) (E : Nat) : (s.extract 0 E ++ ⟨#[9, 35, 59, 32, 36, 10, 32]⟩ ++ s.extract E s.size).size ≤ s.size + 7 := by
  rw [← bs_length, bs_sp, List.length_append, List.length_append, List.length_take, List.length_drop, bs_length]
  have : Kx.nopW.length = 7 := rfl
  omega
set_option maxRecDepth 100000 in
set_option maxHeartbeats 1000000 in
theorem spaces_walk (s : ByteArray) (i : Int) (w : World) (hT : LexT w) : Calls Tryd.prog 7 #[.string s, .int .i64 i] w fun e w' => e = .returned (.bool true) ∧ Below w.heap.size w w' := by
  go_enter Tryd.func7, Tryd.ntmps7
  go_wp2_with fail
  refine (known_ok _ hT).mono ?_
  rintro e w1 ⟨rfl, b1⟩
  by_cases hbig : 4000 < s.size
  · have hbI : (4000 : Int) < (s.size : Int) := by omega
    go_wp2_with fail
    go_ret
    exact ⟨rfl, b1⟩
  have hbI : ¬ (4000 : Int) < (s.size : Int) := by omega
  have hsz : s.size ≤ 100000 := by omega
  go_wp2_with fail
  refine (lex_two s hsz _ (hT.below b1)).mono ?_
  rintro e w2 ⟨b2, ⟨p, c, hp, hp2, hc, hn, rfl⟩ | ⟨hx, A, cap, rfl, hA⟩⟩
  · replace b1 := bTrans b1 b2
    clear b2
    have hcb : (c == 0) = false := by simpa using hc
    have hcb2 : (c != 0) = true := by simpa using hc
    go_wp2_with fail
    go_quiet (fail)
    go_wp2_with fail
    go_ret
    exact ⟨rfl, bDrew b1 _⟩
  replace b1 := bTrans b1 b2
  clear b2
  have hln : (Kx.lexA (bs s)).1.length ≤ 4000 := by have := Kx.lexA_count (bs s); rw [bs_length] at this; omega
  by_cases hi0 : i < 0
  · clear hx hA
    generalize (Kx.lexA (bs s)).1 = ts at *
    go_wp2_with fail
    go_quiet (fail)
    go_wp2_with fail
    go_ret
    exact ⟨rfl, bDrew b1 _⟩
  by_cases hi1 : ((Kx.lexA (bs s)).1.length : Int) ≤ i
  · clear hx hA
    generalize (Kx.lexA (bs s)).1 = ts at *
    have a1 : decide (i < 0) = false := decide_eq_false hi0
    have a2 : decide ((ts.length : Int) ≤ i) = true := decide_eq_true hi1
    have a3 : decide (i < (ts.length : Int)) = false := decide_eq_false (by omega)
    go_wp2_with fail
    go_quiet (fail)
    go_wp2_with fail
    go_ret
    exact ⟨rfl, bDrew b1 _⟩
  obtain ⟨k, rfl⟩ : ∃ k : Nat, i = (k : Int) := ⟨i.toNat, by omega⟩
  have hk : k < (Kx.lexA (bs s)).1.length := by omega
  have hsp := Kx.lexA_sp hx k _ hk rfl
  have hcv := Kx.cov_at _ _ (Kx.lexA_cov hx) k hk
  rw [bs_length] at hcv
  obtain ⟨b, off, rfl, hb, c0, c1, c2⟩ := hA.at_ hk
  rw [← mk_size ((Kx.lexA (bs s)).1[k]).text] at hsp hcv
  rw [← bs_sp] at hsp
  have HSP := Lib.hid hsp
  clear hx hsp c0 hi0
  generalize (Kx.lexA (bs s)).1 = ts at *
  generalize ts[k].pos = z at *
  generalize mkB ts[k].text = y at *
  have hz2 : ¬ ((s.size : Int) - (y.size : Int) < (z : Int)) := by omega
  have hkI : (k : Int) < (ts.length : Int) := by omega
  have g1 : decide ((k : Int) < 0) = false := decide_eq_false (by omega)
  have g2 : decide (ts.length ≤ k) = false := decide_eq_false (by omega)
  have g3 : decide ((z : Int) < 0) = false := decide_eq_false (by omega)
  have g4 : decide ((s.size : Int) - (y.size : Int) < (z : Int)) = false := decide_eq_false (by omega)
  have g5 : decide ((ts.length : Int) ≤ (k : Int)) = false := decide_eq_false (by omega)
  have hkI2 : ¬ ((ts.length : Int) ≤ (k : Int)) := by omega
  have hzE : ((z : Int) + (y.size : Int)).toNat = z + y.size := by omega
  go_wp2_with fail
  go_quiet (fail)
  have bq := bDrewN w2 nq
  have hA2 := hA.at bq
  replace b1 := bTrans b1 bq
  replace c1 := (bq.cell (p := ⟨b, off + k * 3 + 1, none⟩) hb).trans c1
  replace c2 := (bq.cell (p := ⟨b, off + k * 3 + 2, none⟩) hb).trans c2
  clear bq hA hb
  generalize w2.drewN nq = w3 at *
  go_wp2_with fail
  go_quiet (fail)
  have bq := bDrewN w3 nq
  have hA3 := hA2.at bq
  replace b1 := bTrans b1 bq
  clear bq hA2 c1 c2
  generalize w3.drewN nq = w4 at *
  obtain ⟨E, hE⟩ : ∃ E : Nat, E = z + y.size := ⟨_, rfl⟩
  rw [show (z : Int) + (y.size : Int) = (E : Int) by omega]
  rw [← hE] at HSP
  have hEN : E ≤ s.size := by omega
  have hEI : (E : Int) ≤ (s.size : Int) := by omega
  clear hzE hE
  have hlx : ∀ W, LexT W → Calls Tryd.prog 19 #[.string (s.extract 0 E ++ ⟨#[9, 35, 59, 32, 36, 10, 32]⟩ ++ s.extract E s.size)] W fun e w' => ∃ A2 cap2, e = .returned (.tuple #[.slice A2 (Kx.lexA (bs (s.extract 0 E ++ ⟨#[9, 35, 59, 32, 36, 10, 32]⟩ ++ s.extract E s.size))).1.length cap2, .int .i64 0, .int .i64 0]) ∧ Below W.heap.size W w' ∧ Toks w' w'.heap.size A2 (Kx.lexA (bs (s.extract 0 E ++ ⟨#[9, 35, 59, 32, 36, 10, 32]⟩ ++ s.extract E s.size))).1 := fun W hW => by
    refine (lex_any _ ?hnn _ hW).mono ?_
    case hnn => exact Nat.le_trans (sp_size s _) (by omega)
    unfold LexRes
    rintro e w6 ⟨b2, ⟨hx, rfl⟩ | ⟨_, p, c, hx, _, rfl⟩ | ⟨_, hx, A2, cap2, rfl, hA5⟩⟩
    · exfalso
      have h1 := sp_size s E
      rw [← bs_length] at h1
      omega
    · have := HSP.out.1.symm.trans hx
      cases this
    · exact ⟨A2, cap2, rfl, b2, hA5⟩
  have hkt := HSP.out.2
  clear HSP
  generalize hX : s.extract 0 E ++ ⟨#[9, 35, 59, 32, 36, 10, 32]⟩ ++ s.extract E s.size = X at hlx hkt
  generalize (Kx.lexA (bs X)).1 = us at hlx hkt
  subst hX
  have HKT := Lib.hid hkt
  have HLX := Lib.hid hlx
  clear hlx hkt
  go_upto_region 9 with (fail)
  have b1d : Below w.heap.size w w4.drew := b1.drew
  have bd : Below w4.heap.size w4 w4.drew := (Below.refl _ _).drew
  have hA4 := hA3.at bd
  have hT4 := hT.below b1d
  clear hA3 hT
  go_region_with (first
    | (go_at_call 19; refine (HLX.out _ hT4).mono ?_; rintro e w6 ⟨A2, cap2, rfl, b6, hA6⟩; have b7 := bTrans b1d b6; have hA7 := hA4.at b6))
  all_goals
    have hkl := Kx.kt_len HKT.out
    have hal := alike_eq (some ⟨b, off, none⟩) cap A2 cap2 ts us hkl.symm (fun j h h' => Kx.kt_at HKT.out.symm h h') w6 hA7 hA6 (by omega)
    clear hA7 hA6 hkl HKT HLX
    go_wp2_with fail
    refine hal.mono ?_
    rintro e w7 ⟨rfl, q, rfl⟩
    go_wp2_with fail
    go_ret
    exact ⟨rfl, bTrans b7 (bDrewN _ q)⟩
end Go.Proofs.YtcckocaaoklibaaDoor
