/- The law PartitionOrder, walked. -/
import Derived.Test.YtdfkgkgglldokaaWb
import Derived.Test.YtdfkgkgglldokaaLawLattice
namespace Go.Proofs.Ytdfkgkgglldokaa
open Go.RowKit Go.Maps
set_option linter.unusedVariables false

set_option maxRecDepth 100000 in
set_option maxHeartbeats 8000000 in
theorem order_walk (A : Option Addr) (ca : Nat) (za : List Int) (B : Option Addr) (cb : Nat) (zb : List Int) (C : Option Addr) (cc : Nat) (zc : List Int) (w : World)
    (ha : Ints w w.heap.size A za) (hb : Ints w w.heap.size B zb) (hc : Ints w w.heap.size C zc) (hca : za.length ≤ ca) (hcb : zb.length ≤ cb) (hcc : zc.length ≤ cc) :
    Calls Try.prog 7 #[.slice A za.length ca, .slice B zb.length cb, .slice C zc.length cc] w fun e w' => e = .returned (.bool true) ∧ Below w.heap.size w w' := by
  go_enter Try.func7, Try.ntmps7
  go_wp2_with fail
  refine (known_ok w).mono ?_
  rintro e w1 ⟨rfl, B1⟩
  go_wp2_with fail
  refine (three_ok A ca za B cb zb C cc zc _ (ha.at B1) (hb.at B1) (hc.at B1) hca hcb hcc).mono ?_
  rintro e w2 ⟨n, hn, hn1, hn2, hn3, AP, cP, AQ, cQ, AR, cR, rfl, IP, IQ, IR, m⟩
  have B := bTrans B1 m
  have vP := Lib.hid (valid_ofL (za.take n))
  have vQ := Lib.hid (valid_ofL (zb.take n))
  have vR := Lib.hid (valid_ofL (zc.take n))
  have lP : Hid ((Kp.ofL (za.take n)).length = n) := Lib.hid (by rw [Kp.ofL_length, List.length_take]; omega)
  have lQ : Hid ((Kp.ofL (zb.take n)).length = n) := Lib.hid (by rw [Kp.ofL_length, List.length_take]; omega)
  have lR : Hid ((Kp.ofL (zc.take n)).length = n) := Lib.hid (by rw [Kp.ofL_length, List.length_take]; omega)
  clear m B1 hn1 hn2 hn3 ha hb hc
  have K : Zs w2 [(AP, Kp.ofL (za.take n)), (AQ, Kp.ofL (zb.take n)), (AR, Kp.ofL (zc.take n))] := ⟨IP, IQ, IR, trivial⟩
  clear IP IQ IR
  generalize Kp.ofL (za.take n) = P at *
  generalize Kp.ofL (zb.take n) = Q at *
  generalize Kp.ofL (zc.take n) = R at *
  obtain ⟨RPQ, HPQ⟩ : ∃ V, Hid (Kp.refB P Q = V) := ⟨_, Lib.hid rfl⟩
  obtain ⟨RQP, HQP⟩ : ∃ V, Hid (Kp.refB Q P = V) := ⟨_, Lib.hid rfl⟩
  obtain ⟨RQR, HQR⟩ : ∃ V, Hid (Kp.refB Q R = V) := ⟨_, Lib.hid rfl⟩
  go_wp2_with fail
  cases RPQ with
  | false =>
    refine (lmeet_ok AP cP P AQ cQ Q _ K.1 K.2.1 (len6 lP.out hn) (len6 lQ.out hn) (code0 vP.out vQ.out lP.out lQ.out)).mono ?_
    rintro e u1 ⟨mm, Amm, cmm, hmm, rfl, hI, m⟩
    replace B := bTrans B m
    have K1 : Zs u1 ((Amm, mm) :: _) := ⟨hI, K.at m⟩
    clear K hI m
    have K := K1
    clear K1
    have vmm := Lib.hid hmm.v
    have lmm : Hid (mm.length = n) := Lib.hid (hmm.len.trans lP.out)
    have Hmm := Lib.hid hmm
    clear hmm
    go_wp2_with fail
    refine (ljoin_ok AP cP P AQ cQ Q _ K.2.1 K.2.2.1 (len6 lP.out hn) (len6 lQ.out hn) (code0 vP.out vQ.out lP.out lQ.out)).mono ?_
    rintro e u2 ⟨jj, Ajj, cjj, hjj, rfl, hI, m⟩
    replace B := bTrans B m
    have K1 : Zs u2 ((Ajj, jj) :: _) := ⟨hI, K.at m⟩
    clear K hI m
    have K := K1
    clear K1
    have vjj := Lib.hid hjj.v
    have ljj : Hid (jj.length = n) := Lib.hid (hjj.len.trans lP.out)
    have Hjj := Lib.hid hjj
    clear hjj
    go_wp2_with fail
    refine (lrefines_ok AP cP P AP cP P _ K.2.2.1 K.2.2.1 (len6 lP.out hn) (len6 lP.out hn) (code0 vP.out vP.out lP.out lP.out)).mono ?_
    rintro e u3 ⟨rfl, m⟩
    rw [Kp.refB_refl]
    replace K := K.at m
    replace B := bTrans B m
    clear m
    go_wp2_with fail
    refine (lrefines_ok AP cP P AQ cQ Q _ K.2.2.1 K.2.2.2.1 (len6 lP.out hn) (len6 lQ.out hn) (code0 vP.out vQ.out lP.out lQ.out)).mono ?_
    rintro e u4 ⟨rfl, m⟩
    rw [HPQ.out]
    replace K := K.at m
    replace B := bTrans B m
    clear m
    go_wp2_with fail
    have EM : Hid ((mm == P) = false) := Lib.hid (by rw [Kp.refB_meet vP.out Hmm.out, HPQ.out])
    refine (seqi_any Amm AP cmm cP mm P _ K.2.1 K.2.2.1 (len7 lmm.out hn)).mono ?_
    rintro e u5 ⟨rfl, q5, rfl⟩
    rw [EM.out]
    replace K := K.at (bDrew (Below.refl _ _) q5)
    replace B := bTrans B (bDrew (Below.refl _ _) q5)
    generalize World.drewN _ q5 = x5 at *
    go_wp2_with fail
    refine (lrefines_ok AP cP P AQ cQ Q _ K.2.2.1 K.2.2.2.1 (len6 lP.out hn) (len6 lQ.out hn) (code0 vP.out vQ.out lP.out lQ.out)).mono ?_
    rintro e u6 ⟨rfl, m⟩
    rw [HPQ.out]
    replace K := K.at m
    replace B := bTrans B m
    clear m
    go_wp2_with fail
    have EJ : Hid ((jj == Q) = false) := Lib.hid (by rw [Kp.refB_join vQ.out (by rw [lP.out, lQ.out]) Hjj.out, HPQ.out])
    refine (seqi_any Ajj AQ cjj cQ jj Q _ K.1 K.2.2.2.1 (len7 ljj.out hn)).mono ?_
    rintro e u7 ⟨rfl, q7, rfl⟩
    rw [EJ.out]
    replace K := K.at (bDrew (Below.refl _ _) q7)
    replace B := bTrans B (bDrew (Below.refl _ _) q7)
    generalize World.drewN _ q7 = x7 at *
    go_wp2_with fail
    refine (lrefines_ok AP cP P AQ cQ Q _ K.2.2.1 K.2.2.2.1 (len6 lP.out hn) (len6 lQ.out hn) (code0 vP.out vQ.out lP.out lQ.out)).mono ?_
    rintro e u8 ⟨rfl, m⟩
    rw [HPQ.out]
    replace K := K.at m
    replace B := bTrans B m
    clear m
    go_wp2_with fail
    refine (lmeet_ok Amm cmm mm AR cR R _ K.2.1 K.2.2.2.2.1 (len6 lmm.out hn) (len6 lR.out hn) (code0 vmm.out vR.out lmm.out lR.out)).mono ?_
    rintro e u9 ⟨fi, Afi, cfi, hfi, rfl, hI, m⟩
    replace B := bTrans B m
    have K1 : Zs u9 ((Afi, fi) :: _) := ⟨hI, K.at m⟩
    clear K hI m
    have K := K1
    clear K1
    have vfi := Lib.hid hfi.v
    have lfi : Hid (fi.length = n) := Lib.hid (hfi.len.trans lmm.out)
    have Hfi := Lib.hid hfi
    clear hfi
    go_wp2_with fail
    refine (lrefines_ok Afi cfi fi Amm cmm mm _ K.1 K.2.2.1 (len6 lfi.out hn) (len6 lmm.out hn) (code0 vfi.out vmm.out lfi.out lmm.out)).mono ?_
    rintro e u10 ⟨rfl, m⟩
    rw [Hfi.out.ref1]
    replace K := K.at m
    replace B := bTrans B m
    clear m
    go_wp2_with fail
    refine (lrefines_ok Amm cmm mm AP cP P _ K.2.2.1 K.2.2.2.1 (len6 lmm.out hn) (len6 lP.out hn) (code0 vmm.out vP.out lmm.out lP.out)).mono ?_
    rintro e u11 ⟨rfl, m⟩
    rw [Hmm.out.ref1]
    replace K := K.at m
    replace B := bTrans B m
    clear m
    go_wp2_with fail
    refine (lrefines_ok Amm cmm mm AQ cQ Q _ K.2.2.1 K.2.2.2.2.1 (len6 lmm.out hn) (len6 lQ.out hn) (code0 vmm.out vQ.out lmm.out lQ.out)).mono ?_
    rintro e u12 ⟨rfl, m⟩
    rw [Hmm.out.ref2]
    replace K := K.at m
    replace B := bTrans B m
    clear m
    go_wp2_with fail
    refine (lrefines_ok AP cP P Ajj cjj jj _ K.2.2.2.1 K.2.1 (len6 lP.out hn) (len6 ljj.out hn) (code0 vP.out vjj.out lP.out ljj.out)).mono ?_
    rintro e u13 ⟨rfl, m⟩
    rw [Hjj.out.ref1]
    replace K := K.at m
    replace B := bTrans B m
    clear m
    go_wp2_with fail
    refine (lrefines_ok AQ cQ Q Ajj cjj jj _ K.2.2.2.2.1 K.2.1 (len6 lQ.out hn) (len6 ljj.out hn) (code0 vQ.out vjj.out lQ.out ljj.out)).mono ?_
    rintro e u14 ⟨rfl, m⟩
    rw [(Hjj.out.ref2 (by rw [lP.out, lQ.out]))]
    replace K := K.at m
    replace B := bTrans B m
    clear m
    go_wp2_with fail
    have EF : Hid (Kp.refB fi jj = true) := Lib.hid (Kp.refB_trans (by rw [lfi.out, lP.out]) (Kp.refB_trans (by rw [lfi.out, lmm.out]) Hfi.out.ref1 Hmm.out.ref1) Hjj.out.ref1)
    refine (lrefines_ok Afi cfi fi Ajj cjj jj _ K.1 K.2.1 (len6 lfi.out hn) (len6 ljj.out hn) (code0 vfi.out vjj.out lfi.out ljj.out)).mono ?_
    rintro e u15 ⟨rfl, m⟩
    rw [EF.out]
    replace K := K.at m
    replace B := bTrans B m
    clear m
    go_wp2_with fail
    refine (lrefines_ok AP cP P AQ cQ Q _ K.2.2.2.1 K.2.2.2.2.1 (len6 lP.out hn) (len6 lQ.out hn) (code0 vP.out vQ.out lP.out lQ.out)).mono ?_
    rintro e u16 ⟨rfl, m⟩
    rw [HPQ.out]
    replace K := K.at m
    replace B := bTrans B m
    clear m
    go_wp2_with fail
    go_ret
    exact ⟨rfl, B⟩
  | true =>
    cases RQP with
    | false =>
      refine (lmeet_ok AP cP P AQ cQ Q _ K.1 K.2.1 (len6 lP.out hn) (len6 lQ.out hn) (code0 vP.out vQ.out lP.out lQ.out)).mono ?_
      rintro e u1 ⟨mm, Amm, cmm, hmm, rfl, hI, m⟩
      replace B := bTrans B m
      have K1 : Zs u1 ((Amm, mm) :: _) := ⟨hI, K.at m⟩
      clear K hI m
      have K := K1
      clear K1
      have vmm := Lib.hid hmm.v
      have lmm : Hid (mm.length = n) := Lib.hid (hmm.len.trans lP.out)
      have Hmm := Lib.hid hmm
      clear hmm
      go_wp2_with fail
      refine (ljoin_ok AP cP P AQ cQ Q _ K.2.1 K.2.2.1 (len6 lP.out hn) (len6 lQ.out hn) (code0 vP.out vQ.out lP.out lQ.out)).mono ?_
      rintro e u2 ⟨jj, Ajj, cjj, hjj, rfl, hI, m⟩
      replace B := bTrans B m
      have K1 : Zs u2 ((Ajj, jj) :: _) := ⟨hI, K.at m⟩
      clear K hI m
      have K := K1
      clear K1
      have vjj := Lib.hid hjj.v
      have ljj : Hid (jj.length = n) := Lib.hid (hjj.len.trans lP.out)
      have Hjj := Lib.hid hjj
      clear hjj
      go_wp2_with fail
      refine (lrefines_ok AP cP P AP cP P _ K.2.2.1 K.2.2.1 (len6 lP.out hn) (len6 lP.out hn) (code0 vP.out vP.out lP.out lP.out)).mono ?_
      rintro e u3 ⟨rfl, m⟩
      rw [Kp.refB_refl]
      replace K := K.at m
      replace B := bTrans B m
      clear m
      go_wp2_with fail
      refine (lrefines_ok AP cP P AQ cQ Q _ K.2.2.1 K.2.2.2.1 (len6 lP.out hn) (len6 lQ.out hn) (code0 vP.out vQ.out lP.out lQ.out)).mono ?_
      rintro e u4 ⟨rfl, m⟩
      rw [HPQ.out]
      replace K := K.at m
      replace B := bTrans B m
      clear m
      go_wp2_with fail
      have EM : Hid ((mm == P) = true) := Lib.hid (by rw [Kp.refB_meet vP.out Hmm.out, HPQ.out])
      refine (seqi_any Amm AP cmm cP mm P _ K.2.1 K.2.2.1 (len7 lmm.out hn)).mono ?_
      rintro e u5 ⟨rfl, q5, rfl⟩
      rw [EM.out]
      replace K := K.at (bDrew (Below.refl _ _) q5)
      replace B := bTrans B (bDrew (Below.refl _ _) q5)
      generalize World.drewN _ q5 = x5 at *
      go_wp2_with fail
      refine (lrefines_ok AP cP P AQ cQ Q _ K.2.2.1 K.2.2.2.1 (len6 lP.out hn) (len6 lQ.out hn) (code0 vP.out vQ.out lP.out lQ.out)).mono ?_
      rintro e u6 ⟨rfl, m⟩
      rw [HPQ.out]
      replace K := K.at m
      replace B := bTrans B m
      clear m
      go_wp2_with fail
      have EJ : Hid ((jj == Q) = true) := Lib.hid (by rw [Kp.refB_join vQ.out (by rw [lP.out, lQ.out]) Hjj.out, HPQ.out])
      refine (seqi_any Ajj AQ cjj cQ jj Q _ K.1 K.2.2.2.1 (len7 ljj.out hn)).mono ?_
      rintro e u7 ⟨rfl, q7, rfl⟩
      rw [EJ.out]
      replace K := K.at (bDrew (Below.refl _ _) q7)
      replace B := bTrans B (bDrew (Below.refl _ _) q7)
      generalize World.drewN _ q7 = x7 at *
      go_wp2_with fail
      refine (lrefines_ok AP cP P AQ cQ Q _ K.2.2.1 K.2.2.2.1 (len6 lP.out hn) (len6 lQ.out hn) (code0 vP.out vQ.out lP.out lQ.out)).mono ?_
      rintro e u8 ⟨rfl, m⟩
      rw [HPQ.out]
      replace K := K.at m
      replace B := bTrans B m
      clear m
      go_wp2_with fail
      refine (lrefines_ok AQ cQ Q AP cP P _ K.2.2.2.1 K.2.2.1 (len6 lQ.out hn) (len6 lP.out hn) (code0 vQ.out vP.out lQ.out lP.out)).mono ?_
      rintro e u9 ⟨rfl, m⟩
      rw [HQP.out]
      replace K := K.at m
      replace B := bTrans B m
      clear m
      go_wp2_with fail
      refine (lmeet_ok Amm cmm mm AR cR R _ K.2.1 K.2.2.2.2.1 (len6 lmm.out hn) (len6 lR.out hn) (code0 vmm.out vR.out lmm.out lR.out)).mono ?_
      rintro e u10 ⟨fi, Afi, cfi, hfi, rfl, hI, m⟩
      replace B := bTrans B m
      have K1 : Zs u10 ((Afi, fi) :: _) := ⟨hI, K.at m⟩
      clear K hI m
      have K := K1
      clear K1
      have vfi := Lib.hid hfi.v
      have lfi : Hid (fi.length = n) := Lib.hid (hfi.len.trans lmm.out)
      have Hfi := Lib.hid hfi
      clear hfi
      go_wp2_with fail
      refine (lrefines_ok Afi cfi fi Amm cmm mm _ K.1 K.2.2.1 (len6 lfi.out hn) (len6 lmm.out hn) (code0 vfi.out vmm.out lfi.out lmm.out)).mono ?_
      rintro e u11 ⟨rfl, m⟩
      rw [Hfi.out.ref1]
      replace K := K.at m
      replace B := bTrans B m
      clear m
      go_wp2_with fail
      refine (lrefines_ok Amm cmm mm AP cP P _ K.2.2.1 K.2.2.2.1 (len6 lmm.out hn) (len6 lP.out hn) (code0 vmm.out vP.out lmm.out lP.out)).mono ?_
      rintro e u12 ⟨rfl, m⟩
      rw [Hmm.out.ref1]
      replace K := K.at m
      replace B := bTrans B m
      clear m
      go_wp2_with fail
      refine (lrefines_ok Amm cmm mm AQ cQ Q _ K.2.2.1 K.2.2.2.2.1 (len6 lmm.out hn) (len6 lQ.out hn) (code0 vmm.out vQ.out lmm.out lQ.out)).mono ?_
      rintro e u13 ⟨rfl, m⟩
      rw [Hmm.out.ref2]
      replace K := K.at m
      replace B := bTrans B m
      clear m
      go_wp2_with fail
      refine (lrefines_ok AP cP P Ajj cjj jj _ K.2.2.2.1 K.2.1 (len6 lP.out hn) (len6 ljj.out hn) (code0 vP.out vjj.out lP.out ljj.out)).mono ?_
      rintro e u14 ⟨rfl, m⟩
      rw [Hjj.out.ref1]
      replace K := K.at m
      replace B := bTrans B m
      clear m
      go_wp2_with fail
      refine (lrefines_ok AQ cQ Q Ajj cjj jj _ K.2.2.2.2.1 K.2.1 (len6 lQ.out hn) (len6 ljj.out hn) (code0 vQ.out vjj.out lQ.out ljj.out)).mono ?_
      rintro e u15 ⟨rfl, m⟩
      rw [(Hjj.out.ref2 (by rw [lP.out, lQ.out]))]
      replace K := K.at m
      replace B := bTrans B m
      clear m
      go_wp2_with fail
      have EF : Hid (Kp.refB fi jj = true) := Lib.hid (Kp.refB_trans (by rw [lfi.out, lP.out]) (Kp.refB_trans (by rw [lfi.out, lmm.out]) Hfi.out.ref1 Hmm.out.ref1) Hjj.out.ref1)
      refine (lrefines_ok Afi cfi fi Ajj cjj jj _ K.1 K.2.1 (len6 lfi.out hn) (len6 ljj.out hn) (code0 vfi.out vjj.out lfi.out ljj.out)).mono ?_
      rintro e u16 ⟨rfl, m⟩
      rw [EF.out]
      replace K := K.at m
      replace B := bTrans B m
      clear m
      go_wp2_with fail
      refine (lrefines_ok AP cP P AQ cQ Q _ K.2.2.2.1 K.2.2.2.2.1 (len6 lP.out hn) (len6 lQ.out hn) (code0 vP.out vQ.out lP.out lQ.out)).mono ?_
      rintro e u17 ⟨rfl, m⟩
      rw [HPQ.out]
      replace K := K.at m
      replace B := bTrans B m
      clear m
      go_wp2_with fail
      refine (lrefines_ok AQ cQ Q AR cR R _ K.2.2.2.2.1 K.2.2.2.2.2.1 (len6 lQ.out hn) (len6 lR.out hn) (code0 vQ.out vR.out lQ.out lR.out)).mono ?_
      rintro e u18 ⟨rfl, m⟩
      rw [HQR.out]
      replace K := K.at m
      replace B := bTrans B m
      clear m
      cases RQR with
      | false =>
        go_wp2_with fail
        go_ret
        exact ⟨rfl, B⟩
      | true =>
        go_wp2_with fail
        have ER : Hid (Kp.refB P R = true) := Lib.hid (Kp.refB_trans (by rw [lP.out, lQ.out]) HPQ.out HQR.out)
        refine (lrefines_ok AP cP P AR cR R _ K.2.2.2.1 K.2.2.2.2.2.1 (len6 lP.out hn) (len6 lR.out hn) (code0 vP.out vR.out lP.out lR.out)).mono ?_
        rintro e u19 ⟨rfl, m⟩
        rw [ER.out]
        replace K := K.at m
        replace B := bTrans B m
        clear m
        go_wp2_with fail
        go_ret
        exact ⟨rfl, B⟩
    | true =>
      refine (lmeet_ok AP cP P AQ cQ Q _ K.1 K.2.1 (len6 lP.out hn) (len6 lQ.out hn) (code0 vP.out vQ.out lP.out lQ.out)).mono ?_
      rintro e u1 ⟨mm, Amm, cmm, hmm, rfl, hI, m⟩
      replace B := bTrans B m
      have K1 : Zs u1 ((Amm, mm) :: _) := ⟨hI, K.at m⟩
      clear K hI m
      have K := K1
      clear K1
      have vmm := Lib.hid hmm.v
      have lmm : Hid (mm.length = n) := Lib.hid (hmm.len.trans lP.out)
      have Hmm := Lib.hid hmm
      clear hmm
      go_wp2_with fail
      refine (ljoin_ok AP cP P AQ cQ Q _ K.2.1 K.2.2.1 (len6 lP.out hn) (len6 lQ.out hn) (code0 vP.out vQ.out lP.out lQ.out)).mono ?_
      rintro e u2 ⟨jj, Ajj, cjj, hjj, rfl, hI, m⟩
      replace B := bTrans B m
      have K1 : Zs u2 ((Ajj, jj) :: _) := ⟨hI, K.at m⟩
      clear K hI m
      have K := K1
      clear K1
      have vjj := Lib.hid hjj.v
      have ljj : Hid (jj.length = n) := Lib.hid (hjj.len.trans lP.out)
      have Hjj := Lib.hid hjj
      clear hjj
      go_wp2_with fail
      refine (lrefines_ok AP cP P AP cP P _ K.2.2.1 K.2.2.1 (len6 lP.out hn) (len6 lP.out hn) (code0 vP.out vP.out lP.out lP.out)).mono ?_
      rintro e u3 ⟨rfl, m⟩
      rw [Kp.refB_refl]
      replace K := K.at m
      replace B := bTrans B m
      clear m
      go_wp2_with fail
      refine (lrefines_ok AP cP P AQ cQ Q _ K.2.2.1 K.2.2.2.1 (len6 lP.out hn) (len6 lQ.out hn) (code0 vP.out vQ.out lP.out lQ.out)).mono ?_
      rintro e u4 ⟨rfl, m⟩
      rw [HPQ.out]
      replace K := K.at m
      replace B := bTrans B m
      clear m
      go_wp2_with fail
      have EM : Hid ((mm == P) = true) := Lib.hid (by rw [Kp.refB_meet vP.out Hmm.out, HPQ.out])
      refine (seqi_any Amm AP cmm cP mm P _ K.2.1 K.2.2.1 (len7 lmm.out hn)).mono ?_
      rintro e u5 ⟨rfl, q5, rfl⟩
      rw [EM.out]
      replace K := K.at (bDrew (Below.refl _ _) q5)
      replace B := bTrans B (bDrew (Below.refl _ _) q5)
      generalize World.drewN _ q5 = x5 at *
      go_wp2_with fail
      refine (lrefines_ok AP cP P AQ cQ Q _ K.2.2.1 K.2.2.2.1 (len6 lP.out hn) (len6 lQ.out hn) (code0 vP.out vQ.out lP.out lQ.out)).mono ?_
      rintro e u6 ⟨rfl, m⟩
      rw [HPQ.out]
      replace K := K.at m
      replace B := bTrans B m
      clear m
      go_wp2_with fail
      have EJ : Hid ((jj == Q) = true) := Lib.hid (by rw [Kp.refB_join vQ.out (by rw [lP.out, lQ.out]) Hjj.out, HPQ.out])
      refine (seqi_any Ajj AQ cjj cQ jj Q _ K.1 K.2.2.2.1 (len7 ljj.out hn)).mono ?_
      rintro e u7 ⟨rfl, q7, rfl⟩
      rw [EJ.out]
      replace K := K.at (bDrew (Below.refl _ _) q7)
      replace B := bTrans B (bDrew (Below.refl _ _) q7)
      generalize World.drewN _ q7 = x7 at *
      go_wp2_with fail
      refine (lrefines_ok AP cP P AQ cQ Q _ K.2.2.1 K.2.2.2.1 (len6 lP.out hn) (len6 lQ.out hn) (code0 vP.out vQ.out lP.out lQ.out)).mono ?_
      rintro e u8 ⟨rfl, m⟩
      rw [HPQ.out]
      replace K := K.at m
      replace B := bTrans B m
      clear m
      go_wp2_with fail
      refine (lrefines_ok AQ cQ Q AP cP P _ K.2.2.2.1 K.2.2.1 (len6 lQ.out hn) (len6 lP.out hn) (code0 vQ.out vP.out lQ.out lP.out)).mono ?_
      rintro e u9 ⟨rfl, m⟩
      rw [HQP.out]
      replace K := K.at m
      replace B := bTrans B m
      clear m
      go_wp2_with fail
      have EQ : Hid ((P == Q) = true) := Lib.hid (by rw [Kp.refB_anti vP.out vQ.out (by rw [lP.out, lQ.out]) HPQ.out HQP.out]; exact beq_self_eq_true _)
      refine (seqi_any AP AQ cP cQ P Q _ K.2.2.1 K.2.2.2.1 (len7 lP.out hn)).mono ?_
      rintro e u10 ⟨rfl, q10, rfl⟩
      rw [EQ.out]
      replace K := K.at (bDrew (Below.refl _ _) q10)
      replace B := bTrans B (bDrew (Below.refl _ _) q10)
      generalize World.drewN _ q10 = x10 at *
      go_wp2_with fail
      refine (lmeet_ok Amm cmm mm AR cR R _ K.2.1 K.2.2.2.2.1 (len6 lmm.out hn) (len6 lR.out hn) (code0 vmm.out vR.out lmm.out lR.out)).mono ?_
      rintro e u11 ⟨fi, Afi, cfi, hfi, rfl, hI, m⟩
      replace B := bTrans B m
      have K1 : Zs u11 ((Afi, fi) :: _) := ⟨hI, K.at m⟩
      clear K hI m
      have K := K1
      clear K1
      have vfi := Lib.hid hfi.v
      have lfi : Hid (fi.length = n) := Lib.hid (hfi.len.trans lmm.out)
      have Hfi := Lib.hid hfi
      clear hfi
      go_wp2_with fail
      refine (lrefines_ok Afi cfi fi Amm cmm mm _ K.1 K.2.2.1 (len6 lfi.out hn) (len6 lmm.out hn) (code0 vfi.out vmm.out lfi.out lmm.out)).mono ?_
      rintro e u12 ⟨rfl, m⟩
      rw [Hfi.out.ref1]
      replace K := K.at m
      replace B := bTrans B m
      clear m
      go_wp2_with fail
      refine (lrefines_ok Amm cmm mm AP cP P _ K.2.2.1 K.2.2.2.1 (len6 lmm.out hn) (len6 lP.out hn) (code0 vmm.out vP.out lmm.out lP.out)).mono ?_
      rintro e u13 ⟨rfl, m⟩
      rw [Hmm.out.ref1]
      replace K := K.at m
      replace B := bTrans B m
      clear m
      go_wp2_with fail
      refine (lrefines_ok Amm cmm mm AQ cQ Q _ K.2.2.1 K.2.2.2.2.1 (len6 lmm.out hn) (len6 lQ.out hn) (code0 vmm.out vQ.out lmm.out lQ.out)).mono ?_
      rintro e u14 ⟨rfl, m⟩
      rw [Hmm.out.ref2]
      replace K := K.at m
      replace B := bTrans B m
      clear m
      go_wp2_with fail
      refine (lrefines_ok AP cP P Ajj cjj jj _ K.2.2.2.1 K.2.1 (len6 lP.out hn) (len6 ljj.out hn) (code0 vP.out vjj.out lP.out ljj.out)).mono ?_
      rintro e u15 ⟨rfl, m⟩
      rw [Hjj.out.ref1]
      replace K := K.at m
      replace B := bTrans B m
      clear m
      go_wp2_with fail
      refine (lrefines_ok AQ cQ Q Ajj cjj jj _ K.2.2.2.2.1 K.2.1 (len6 lQ.out hn) (len6 ljj.out hn) (code0 vQ.out vjj.out lQ.out ljj.out)).mono ?_
      rintro e u16 ⟨rfl, m⟩
      rw [(Hjj.out.ref2 (by rw [lP.out, lQ.out]))]
      replace K := K.at m
      replace B := bTrans B m
      clear m
      go_wp2_with fail
      have EF : Hid (Kp.refB fi jj = true) := Lib.hid (Kp.refB_trans (by rw [lfi.out, lP.out]) (Kp.refB_trans (by rw [lfi.out, lmm.out]) Hfi.out.ref1 Hmm.out.ref1) Hjj.out.ref1)
      refine (lrefines_ok Afi cfi fi Ajj cjj jj _ K.1 K.2.1 (len6 lfi.out hn) (len6 ljj.out hn) (code0 vfi.out vjj.out lfi.out ljj.out)).mono ?_
      rintro e u17 ⟨rfl, m⟩
      rw [EF.out]
      replace K := K.at m
      replace B := bTrans B m
      clear m
      go_wp2_with fail
      refine (lrefines_ok AP cP P AQ cQ Q _ K.2.2.2.1 K.2.2.2.2.1 (len6 lP.out hn) (len6 lQ.out hn) (code0 vP.out vQ.out lP.out lQ.out)).mono ?_
      rintro e u18 ⟨rfl, m⟩
      rw [HPQ.out]
      replace K := K.at m
      replace B := bTrans B m
      clear m
      go_wp2_with fail
      refine (lrefines_ok AQ cQ Q AR cR R _ K.2.2.2.2.1 K.2.2.2.2.2.1 (len6 lQ.out hn) (len6 lR.out hn) (code0 vQ.out vR.out lQ.out lR.out)).mono ?_
      rintro e u19 ⟨rfl, m⟩
      rw [HQR.out]
      replace K := K.at m
      replace B := bTrans B m
      clear m
      cases RQR with
      | false =>
        go_wp2_with fail
        go_ret
        exact ⟨rfl, B⟩
      | true =>
        go_wp2_with fail
        have ER : Hid (Kp.refB P R = true) := Lib.hid (Kp.refB_trans (by rw [lP.out, lQ.out]) HPQ.out HQR.out)
        refine (lrefines_ok AP cP P AR cR R _ K.2.2.2.1 K.2.2.2.2.2.1 (len6 lP.out hn) (len6 lR.out hn) (code0 vP.out vR.out lP.out lR.out)).mono ?_
        rintro e u20 ⟨rfl, m⟩
        rw [ER.out]
        replace K := K.at m
        replace B := bTrans B m
        clear m
        go_wp2_with fail
        go_ret
        exact ⟨rfl, B⟩
end Go.Proofs.Ytdfkgkgglldokaa
