/- The law PartitionSemimodular, walked. -/
import Derived.Test.YtdfkgkgglldokaaWf
import Derived.IntWalk
namespace Go.Proofs.Ytdfkgkgglldokaa
open Go.RowKit Go.Maps
set_option linter.unusedVariables false

set_option maxRecDepth 100000 in
set_option maxHeartbeats 8000000 in
theorem semi_walk (A : Option Addr) (ca : Nat) (za : List Int) (B : Option Addr) (cb : Nat) (zb : List Int) (w : World)
    (ha : Ints w w.heap.size A za) (hb : Ints w w.heap.size B zb) (hca : za.length ≤ ca) (hcb : zb.length ≤ cb) :
    Calls Try.prog 8 #[.slice A za.length ca, .slice B zb.length cb] w fun e w' => e = .returned (.bool true) ∧ Below w.heap.size w w' := by
  go_enter Try.func8, Try.ntmps8
  go_wp2_with fail
  refine (known_ok w).mono ?_
  rintro e w1 ⟨rfl, B1⟩
  go_wp2_with fail
  refine (three_ok A ca za B cb zb A ca za _ (ha.at B1) (hb.at B1) (ha.at B1) hca hcb hca).mono ?_
  rintro e w2 ⟨n, hn, hn1, hn2, hn3, AP, cP, AQ, cQ, AR, cR, rfl, IP, IQ, IR, m⟩
  have B := bTrans B1 m
  have vP := Lib.hid (valid_ofL (za.take n))
  have vQ := Lib.hid (valid_ofL (zb.take n))
  have vR := Lib.hid (valid_ofL (za.take n))
  have lP : Hid ((Kp.ofL (za.take n)).length = n) := Lib.hid (by rw [Kp.ofL_length, List.length_take]; omega)
  have lQ : Hid ((Kp.ofL (zb.take n)).length = n) := Lib.hid (by rw [Kp.ofL_length, List.length_take]; omega)
  have lR : Hid ((Kp.ofL (za.take n)).length = n) := Lib.hid (by rw [Kp.ofL_length, List.length_take]; omega)
  clear m B1 hn1 hn2 hn3 ha hb
  have K : Zs w2 [(AP, Kp.ofL (za.take n)), (AQ, Kp.ofL (zb.take n)), (AR, Kp.ofL (za.take n))] := ⟨IP, IQ, IR, trivial⟩
  clear IP IQ IR
  generalize Kp.ofL (za.take n) = P at *
  generalize Kp.ofL (zb.take n) = Q at *
  go_wp2_with fail
  refine (lmeet_ok AP cP P AQ cQ Q _ K.1 K.2.1 (len6 lP.out hn) (len6 lQ.out hn) (code0 vP.out vQ.out lP.out lQ.out)).mono ?_
  rintro e u1 ⟨mm, Amm, cmm, hmm, rfl, hI, m⟩
  replace B := bTrans B m
  have K1 : Zs u1 ((Amm, mm) :: _) := ⟨hI, K.at m⟩
  clear K hI m
  have K := K1
  clear K1
  have vmm := Lib.hid hmm.v
  have lmm : Hid (mm.length = n) := Lib.hid (hmm.len.trans lP.out)
  have Hmm := Lib.hid hmm
  clear hmm
  go_wp2_with fail
  refine (ljoin_ok AP cP P AQ cQ Q _ K.2.1 K.2.2.1 (len6 lP.out hn) (len6 lQ.out hn) (code0 vP.out vQ.out lP.out lQ.out)).mono ?_
  rintro e u2 ⟨jj, Ajj, cjj, hjj, rfl, hI, m⟩
  replace B := bTrans B m
  have K1 : Zs u2 ((Ajj, jj) :: _) := ⟨hI, K.at m⟩
  clear K hI m
  have K := K1
  clear K1
  have vjj := Lib.hid hjj.v
  have ljj : Hid (jj.length = n) := Lib.hid (hjj.len.trans lP.out)
  have Hjj := Lib.hid hjj
  clear hjj
  have vPz := vP.out
  have vQz := vQ.out
  have vMz := vmm.out
  have vJz := vjj.out
  have lPQ : P.length = Q.length := by rw [lP.out, lQ.out]
  have lmP : mm.length = P.length := by rw [lmm.out, lP.out]
  have lPj : P.length = jj.length := by rw [lP.out, ljj.out]
  have hz1 := Kp.semimodular lPQ Hmm.out Hjj.out
  have hz2 := Kp.meet_prod vPz vQz lPQ Hmm.out
  have hz3 := Kp.cnt_ref lmP Hmm.out.ref1
  have hz4 := Kp.cnt_ref (lmP.trans lPQ) Hmm.out.ref2
  have hz5 := Kp.cnt_ref lPj Hjj.out.ref1
  have hz6 := Kp.cnt_ref (lPQ.symm.trans lPj) (Hjj.out.ref2 lPQ)
  have hz7 : 0 < P.length → 0 < Kp.cntL jj := fun h => Kp.rank_pos _ (by rw [← lPj]; exact h)
  have hz8 := Kp.cntL_le P
  have hz9 := Kp.cntL_le Q
  have hz10 := Kp.cntL_le mm
  have hz11 := Kp.cntL_le jj
  have hz12 := Kp.pr_ref vMz vPz lmP Hmm.out.ref1
  have hz13 := Kp.pr_ref vPz vJz lPj Hjj.out.ref1
  have hz14 := Kp.pr_meet vPz vQz lPQ Hmm.out
  have hz15 := Kp.pr_le vPz (by rw [lP.out]; exact hn)
  have hz16 := Kp.pr_le vQz (by rw [lQ.out]; exact hn)
  have hz17 := Kp.lg_ref vMz vPz lmP Hmm.out.ref1
  have hz18 := Kp.lg_ref vPz vJz lPj Hjj.out.ref1
  rw [lP.out] at hz8
  rw [lQ.out] at hz9
  rw [lmm.out] at hz10
  rw [ljj.out] at hz11
  rw [lP.out] at hz7
  obtain ⟨CP, fCP⟩ : ∃ x : Int, Hid (((Kp.cnt0 P : Nat) : Int) = x) := ⟨_, Lib.hid rfl⟩
  obtain ⟨CQ, fCQ⟩ : ∃ x : Int, Hid (((Kp.cnt0 Q : Nat) : Int) = x) := ⟨_, Lib.hid rfl⟩
  obtain ⟨CM, fCM⟩ : ∃ x : Int, Hid (((Kp.cnt0 mm : Nat) : Int) = x) := ⟨_, Lib.hid rfl⟩
  obtain ⟨CJ, fCJ⟩ : ∃ x : Int, Hid (((Kp.cnt0 jj : Nat) : Int) = x) := ⟨_, Lib.hid rfl⟩
  obtain ⟨PP, fPP⟩ : ∃ x : Int, Hid (((Kp.prL P : Nat) : Int) = x) := ⟨_, Lib.hid rfl⟩
  obtain ⟨PQ, fPQ⟩ : ∃ x : Int, Hid (((Kp.prL Q : Nat) : Int) = x) := ⟨_, Lib.hid rfl⟩
  obtain ⟨PM, fPM⟩ : ∃ x : Int, Hid (((Kp.prL mm : Nat) : Int) = x) := ⟨_, Lib.hid rfl⟩
  obtain ⟨PJ, fPJ⟩ : ∃ x : Int, Hid (((Kp.prL jj : Nat) : Int) = x) := ⟨_, Lib.hid rfl⟩
  obtain ⟨GP, fGP⟩ : ∃ x : Int, Hid (((Kp.lgL P : Nat) : Int) = x) := ⟨_, Lib.hid rfl⟩
  obtain ⟨GM, fGM⟩ : ∃ x : Int, Hid (((Kp.lgL mm : Nat) : Int) = x) := ⟨_, Lib.hid rfl⟩
  obtain ⟨GJ, fGJ⟩ : ∃ x : Int, Hid (((Kp.lgL jj : Nat) : Int) = x) := ⟨_, Lib.hid rfl⟩
  obtain ⟨TT, fTT⟩ : ∃ x : Int, Hid (CP * CQ = x) := ⟨_, Lib.hid rfl⟩
  obtain ⟨MN, fMN⟩ : ∃ x : Int, Hid (x = min CP CQ) := ⟨_, Lib.hid rfl⟩
  have eP := fCP.out
  have eQ := fCQ.out
  have eM := fCM.out
  have eJ := fCJ.out
  rw [Kp.cnt0_ok vPz] at eP
  rw [Kp.cnt0_ok vQz] at eQ
  rw [Kp.cnt0_ok vMz] at eM
  rw [Kp.cnt0_ok vJz] at eJ
  have eT : ((Kp.cntL P * Kp.cntL Q : Nat) : Int) = TT := by rw [← fTT.out, ← eP, ← eQ, Int.natCast_mul]
  have y2 : CM ≤ TT := by omega
  have y1 : CP + CQ ≤ CM + CJ := by omega
  have y3 : max CP CQ ≤ CM := by omega
  have y4 : CJ ≤ MN := by rw [fMN.out]; omega
  have y5 : 0 < n → 1 ≤ CJ := fun h => by have := hz7 h; omega
  have y6 : 0 ≤ CP ∧ CP ≤ 24 := by omega
  have y7 : 0 ≤ CQ ∧ CQ ≤ 24 := by omega
  have y8 : 0 ≤ CM ∧ CM ≤ 24 := by omega
  have y9 : 0 ≤ CJ ∧ CJ ≤ 24 := by omega
  have p1 : PM ≥ PP := by have := fPM.out; have := fPP.out; omega
  have p2 : PP ≥ PJ := by have := fPJ.out; have := fPP.out; omega
  have p3 : PM ≤ PP + PQ := by have := fPM.out; have := fPP.out; have := fPQ.out; omega
  have p4 : 0 ≤ PP ∧ PP ≤ 576 := by have := fPP.out; omega
  have p5 : 0 ≤ PQ ∧ PQ ≤ 576 := by have := fPQ.out; omega
  have p6 : GM ≤ GP := by have := fGM.out; have := fGP.out; omega
  have p7 : GP ≤ GJ := by have := fGJ.out; have := fGP.out; omega
  have t1 : ¬ CM + CJ < CP + CQ := by omega
  have t4 : CP ≤ CM := by omega
  have t5 : CQ ≤ CM := by omega
  have t6 : CJ ≤ CP := by have := fMN.out; omega
  have t7 : CJ ≤ CQ := by have := fMN.out; omega
  have t3 : ¬ CM < max CP CQ := by omega
  have hmin : ∀ W : World, (Builtin.min_ #[3, 3] 3 #[.int .i64 CP, .int .i64 CQ]).run Try.prog W = .ok (.int .i64 MN) W := fun W => min2 _ _ _ fMN.out _ _ W
  have ltt : TT ≤ 576 ∧ 0 ≤ TT := by
    have h1 : Kp.cntL P * Kp.cntL Q ≤ 24 * 24 := Nat.mul_le_mul (by omega) (by omega)
    omega
  have hw1 : IntKind.i64.wrap (CP * CQ) = TT := by rw [fTT.out, IntKind.wrap_i64]; omega
  have hw2 : wrap64 (CP * CQ) = TT := by rw [fTT.out]; exact IntWalk.wrap64_in _ (by omega)
  obtain ⟨y61, y62⟩ := y6
  obtain ⟨y71, y72⟩ := y7
  obtain ⟨y81, y82⟩ := y8
  obtain ⟨y91, y92⟩ := y9
  obtain ⟨p41, p42⟩ := p4
  obtain ⟨p51, p52⟩ := p5
  have hP0 : Hid ((P.length : Int) = (n : Int)) := Lib.hid (by rw [lP.out])
  have T5 := Lib.hid y5
  clear vPz vQz vMz vJz lPQ lmP lPj hz1 hz2 hz3 hz4 hz5 hz6 hz7 hz8 hz9 hz10 hz11 hz12 hz13 hz14 hz15 hz16 hz17 hz18 eP eQ eM eJ eT y5 ltt
  go_wp2_with fail
  refine (bcount_any AP cP P _ K.2.2.1 (len6 lP.out hn)).mono ?_
  rintro e u3 ⟨rfl, m⟩
  rw [fCP.out]
  replace K := K.at m
  replace B := bTrans B m
  clear m
  go_wp2_with fail
  refine (bcount_any AQ cQ Q _ K.2.2.2.1 (len6 lQ.out hn)).mono ?_
  rintro e u4 ⟨rfl, m⟩
  rw [fCQ.out]
  replace K := K.at m
  replace B := bTrans B m
  clear m
  go_wp2_with fail
  refine (bcount_any Amm cmm mm _ K.2.1 (len6 lmm.out hn)).mono ?_
  rintro e u5 ⟨rfl, m⟩
  rw [fCM.out]
  replace K := K.at m
  replace B := bTrans B m
  clear m
  go_wp2_with fail
  refine (bcount_any Ajj cjj jj _ K.1 (len6 ljj.out hn)).mono ?_
  rintro e u6 ⟨rfl, m⟩
  rw [fCJ.out]
  replace K := K.at m
  replace B := bTrans B m
  clear m
  have h0 : (0 : Int) < (P.length : Int) ∨ (P.length : Int) = 0 := by omega
  have hJ1 : (0 : Int) < (P.length : Int) → ¬ CJ < 1 := fun h => by have := T5.out (by have := hP0.out; omega); omega
  rcases (show CQ ≤ CP ∨ ¬ CQ ≤ CP by omega) with hord | hord
  · skip
    rcases h0 with h0 | h0
    · have hJ2 := hJ1 h0
      clear hJ1
      go_wp2_with fail
      refine (bpairs_any Amm cmm mm _ K.2.1 (by have := lmm.out; omega)).mono ?_
      rintro e u7 ⟨rfl, m⟩
      rw [fPM.out]
      replace K := K.at m
      replace B := bTrans B m
      clear m
      go_wp2_with fail
      refine (bpairs_any AP cP P _ K.2.2.1 (by have := lP.out; omega)).mono ?_
      rintro e u8 ⟨rfl, m⟩
      rw [fPP.out]
      replace K := K.at m
      replace B := bTrans B m
      clear m
      go_wp2_with fail
      refine (bpairs_any AP cP P _ K.2.2.1 (by have := lP.out; omega)).mono ?_
      rintro e u9 ⟨rfl, m⟩
      rw [fPP.out]
      replace K := K.at m
      replace B := bTrans B m
      clear m
      go_wp2_with fail
      refine (bpairs_any Ajj cjj jj _ K.1 (by have := ljj.out; omega)).mono ?_
      rintro e u10 ⟨rfl, m⟩
      rw [fPJ.out]
      replace K := K.at m
      replace B := bTrans B m
      clear m
      go_wp2_with fail
      refine (bpairs_any Amm cmm mm _ K.2.1 (by have := lmm.out; omega)).mono ?_
      rintro e u11 ⟨rfl, m⟩
      rw [fPM.out]
      replace K := K.at m
      replace B := bTrans B m
      clear m
      go_wp2_with fail
      refine (bpairs_any AP cP P _ K.2.2.1 (by have := lP.out; omega)).mono ?_
      rintro e u12 ⟨rfl, m⟩
      rw [fPP.out]
      replace K := K.at m
      replace B := bTrans B m
      clear m
      go_wp2_with fail
      refine (bpairs_any AQ cQ Q _ K.2.2.2.1 (by have := lQ.out; omega)).mono ?_
      rintro e u13 ⟨rfl, m⟩
      rw [fPQ.out]
      replace K := K.at m
      replace B := bTrans B m
      clear m
      go_wp2_with fail
      refine (blarge_any Amm cmm mm _ K.2.1 (len6 lmm.out hn)).mono ?_
      rintro e u14 ⟨rfl, m⟩
      rw [fGM.out]
      replace K := K.at m
      replace B := bTrans B m
      clear m
      go_wp2_with fail
      refine (blarge_any AP cP P _ K.2.2.1 (len6 lP.out hn)).mono ?_
      rintro e u15 ⟨rfl, m⟩
      rw [fGP.out]
      replace K := K.at m
      replace B := bTrans B m
      clear m
      go_wp2_with fail
      refine (blarge_any AP cP P _ K.2.2.1 (len6 lP.out hn)).mono ?_
      rintro e u16 ⟨rfl, m⟩
      rw [fGP.out]
      replace K := K.at m
      replace B := bTrans B m
      clear m
      go_wp2_with fail
      refine (blarge_any Ajj cjj jj _ K.1 (len6 ljj.out hn)).mono ?_
      rintro e u17 ⟨rfl, m⟩
      rw [fGJ.out]
      replace K := K.at m
      replace B := bTrans B m
      clear m
      go_wp2_with fail
      go_ret
      exact ⟨rfl, B⟩
    · have hz0 : ¬ (0 : Int) < (P.length : Int) := by omega
      have hl0 : P.length = 0 := by omega
      clear hJ1 h0
      clear hl0
      go_wp2_with fail
      refine (bpairs_any Amm cmm mm _ K.2.1 (by have := lmm.out; omega)).mono ?_
      rintro e u18 ⟨rfl, m⟩
      rw [fPM.out]
      replace K := K.at m
      replace B := bTrans B m
      clear m
      go_wp2_with fail
      refine (bpairs_any AP cP P _ K.2.2.1 (by have := lP.out; omega)).mono ?_
      rintro e u19 ⟨rfl, m⟩
      rw [fPP.out]
      replace K := K.at m
      replace B := bTrans B m
      clear m
      go_wp2_with fail
      refine (bpairs_any AP cP P _ K.2.2.1 (by have := lP.out; omega)).mono ?_
      rintro e u20 ⟨rfl, m⟩
      rw [fPP.out]
      replace K := K.at m
      replace B := bTrans B m
      clear m
      go_wp2_with fail
      refine (bpairs_any Ajj cjj jj _ K.1 (by have := ljj.out; omega)).mono ?_
      rintro e u21 ⟨rfl, m⟩
      rw [fPJ.out]
      replace K := K.at m
      replace B := bTrans B m
      clear m
      go_wp2_with fail
      refine (bpairs_any Amm cmm mm _ K.2.1 (by have := lmm.out; omega)).mono ?_
      rintro e u22 ⟨rfl, m⟩
      rw [fPM.out]
      replace K := K.at m
      replace B := bTrans B m
      clear m
      go_wp2_with fail
      refine (bpairs_any AP cP P _ K.2.2.1 (by have := lP.out; omega)).mono ?_
      rintro e u23 ⟨rfl, m⟩
      rw [fPP.out]
      replace K := K.at m
      replace B := bTrans B m
      clear m
      go_wp2_with fail
      refine (bpairs_any AQ cQ Q _ K.2.2.2.1 (by have := lQ.out; omega)).mono ?_
      rintro e u24 ⟨rfl, m⟩
      rw [fPQ.out]
      replace K := K.at m
      replace B := bTrans B m
      clear m
      go_wp2_with fail
      refine (blarge_any Amm cmm mm _ K.2.1 (len6 lmm.out hn)).mono ?_
      rintro e u25 ⟨rfl, m⟩
      rw [fGM.out]
      replace K := K.at m
      replace B := bTrans B m
      clear m
      go_wp2_with fail
      refine (blarge_any AP cP P _ K.2.2.1 (len6 lP.out hn)).mono ?_
      rintro e u26 ⟨rfl, m⟩
      rw [fGP.out]
      replace K := K.at m
      replace B := bTrans B m
      clear m
      go_wp2_with fail
      refine (blarge_any AP cP P _ K.2.2.1 (len6 lP.out hn)).mono ?_
      rintro e u27 ⟨rfl, m⟩
      rw [fGP.out]
      replace K := K.at m
      replace B := bTrans B m
      clear m
      go_wp2_with fail
      refine (blarge_any Ajj cjj jj _ K.1 (len6 ljj.out hn)).mono ?_
      rintro e u28 ⟨rfl, m⟩
      rw [fGJ.out]
      replace K := K.at m
      replace B := bTrans B m
      clear m
      go_wp2_with fail
      go_ret
      exact ⟨rfl, B⟩
  · have hord2 : CP < CQ := by omega
    rcases h0 with h0 | h0
    · have hJ2 := hJ1 h0
      clear hJ1
      go_wp2_with fail
      refine (bpairs_any Amm cmm mm _ K.2.1 (by have := lmm.out; omega)).mono ?_
      rintro e u29 ⟨rfl, m⟩
      rw [fPM.out]
      replace K := K.at m
      replace B := bTrans B m
      clear m
      go_wp2_with fail
      refine (bpairs_any AP cP P _ K.2.2.1 (by have := lP.out; omega)).mono ?_
      rintro e u30 ⟨rfl, m⟩
      rw [fPP.out]
      replace K := K.at m
      replace B := bTrans B m
      clear m
      go_wp2_with fail
      refine (bpairs_any AP cP P _ K.2.2.1 (by have := lP.out; omega)).mono ?_
      rintro e u31 ⟨rfl, m⟩
      rw [fPP.out]
      replace K := K.at m
      replace B := bTrans B m
      clear m
      go_wp2_with fail
      refine (bpairs_any Ajj cjj jj _ K.1 (by have := ljj.out; omega)).mono ?_
      rintro e u32 ⟨rfl, m⟩
      rw [fPJ.out]
      replace K := K.at m
      replace B := bTrans B m
      clear m
      go_wp2_with fail
      refine (bpairs_any Amm cmm mm _ K.2.1 (by have := lmm.out; omega)).mono ?_
      rintro e u33 ⟨rfl, m⟩
      rw [fPM.out]
      replace K := K.at m
      replace B := bTrans B m
      clear m
      go_wp2_with fail
      refine (bpairs_any AP cP P _ K.2.2.1 (by have := lP.out; omega)).mono ?_
      rintro e u34 ⟨rfl, m⟩
      rw [fPP.out]
      replace K := K.at m
      replace B := bTrans B m
      clear m
      go_wp2_with fail
      refine (bpairs_any AQ cQ Q _ K.2.2.2.1 (by have := lQ.out; omega)).mono ?_
      rintro e u35 ⟨rfl, m⟩
      rw [fPQ.out]
      replace K := K.at m
      replace B := bTrans B m
      clear m
      go_wp2_with fail
      refine (blarge_any Amm cmm mm _ K.2.1 (len6 lmm.out hn)).mono ?_
      rintro e u36 ⟨rfl, m⟩
      rw [fGM.out]
      replace K := K.at m
      replace B := bTrans B m
      clear m
      go_wp2_with fail
      refine (blarge_any AP cP P _ K.2.2.1 (len6 lP.out hn)).mono ?_
      rintro e u37 ⟨rfl, m⟩
      rw [fGP.out]
      replace K := K.at m
      replace B := bTrans B m
      clear m
      go_wp2_with fail
      refine (blarge_any AP cP P _ K.2.2.1 (len6 lP.out hn)).mono ?_
      rintro e u38 ⟨rfl, m⟩
      rw [fGP.out]
      replace K := K.at m
      replace B := bTrans B m
      clear m
      go_wp2_with fail
      refine (blarge_any Ajj cjj jj _ K.1 (len6 ljj.out hn)).mono ?_
      rintro e u39 ⟨rfl, m⟩
      rw [fGJ.out]
      replace K := K.at m
      replace B := bTrans B m
      clear m
      go_wp2_with fail
      go_ret
      exact ⟨rfl, B⟩
    · have hz0 : ¬ (0 : Int) < (P.length : Int) := by omega
      have hl0 : P.length = 0 := by omega
      clear hJ1 h0
      clear hl0
      go_wp2_with fail
      refine (bpairs_any Amm cmm mm _ K.2.1 (by have := lmm.out; omega)).mono ?_
      rintro e u40 ⟨rfl, m⟩
      rw [fPM.out]
      replace K := K.at m
      replace B := bTrans B m
      clear m
      go_wp2_with fail
      refine (bpairs_any AP cP P _ K.2.2.1 (by have := lP.out; omega)).mono ?_
      rintro e u41 ⟨rfl, m⟩
      rw [fPP.out]
      replace K := K.at m
      replace B := bTrans B m
      clear m
      go_wp2_with fail
      refine (bpairs_any AP cP P _ K.2.2.1 (by have := lP.out; omega)).mono ?_
      rintro e u42 ⟨rfl, m⟩
      rw [fPP.out]
      replace K := K.at m
      replace B := bTrans B m
      clear m
      go_wp2_with fail
      refine (bpairs_any Ajj cjj jj _ K.1 (by have := ljj.out; omega)).mono ?_
      rintro e u43 ⟨rfl, m⟩
      rw [fPJ.out]
      replace K := K.at m
      replace B := bTrans B m
      clear m
      go_wp2_with fail
      refine (bpairs_any Amm cmm mm _ K.2.1 (by have := lmm.out; omega)).mono ?_
      rintro e u44 ⟨rfl, m⟩
      rw [fPM.out]
      replace K := K.at m
      replace B := bTrans B m
      clear m
      go_wp2_with fail
      refine (bpairs_any AP cP P _ K.2.2.1 (by have := lP.out; omega)).mono ?_
      rintro e u45 ⟨rfl, m⟩
      rw [fPP.out]
      replace K := K.at m
      replace B := bTrans B m
      clear m
      go_wp2_with fail
      refine (bpairs_any AQ cQ Q _ K.2.2.2.1 (by have := lQ.out; omega)).mono ?_
      rintro e u46 ⟨rfl, m⟩
      rw [fPQ.out]
      replace K := K.at m
      replace B := bTrans B m
      clear m
      go_wp2_with fail
      refine (blarge_any Amm cmm mm _ K.2.1 (len6 lmm.out hn)).mono ?_
      rintro e u47 ⟨rfl, m⟩
      rw [fGM.out]
      replace K := K.at m
      replace B := bTrans B m
      clear m
      go_wp2_with fail
      refine (blarge_any AP cP P _ K.2.2.1 (len6 lP.out hn)).mono ?_
      rintro e u48 ⟨rfl, m⟩
      rw [fGP.out]
      replace K := K.at m
      replace B := bTrans B m
      clear m
      go_wp2_with fail
      refine (blarge_any AP cP P _ K.2.2.1 (len6 lP.out hn)).mono ?_
      rintro e u49 ⟨rfl, m⟩
      rw [fGP.out]
      replace K := K.at m
      replace B := bTrans B m
      clear m
      go_wp2_with fail
      refine (blarge_any Ajj cjj jj _ K.1 (len6 ljj.out hn)).mono ?_
      rintro e u50 ⟨rfl, m⟩
      rw [fGJ.out]
      replace K := K.at m
      replace B := bTrans B m
      clear m
      go_wp2_with fail
      go_ret
      exact ⟨rfl, B⟩
end Go.Proofs.Ytdfkgkgglldokaa
