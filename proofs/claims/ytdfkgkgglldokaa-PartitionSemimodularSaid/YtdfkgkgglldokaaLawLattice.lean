/- The law PartitionLattice, walked. -/
import Derived.Test.YtdfkgkgglldokaaWa
import Derived.Test.YtdfkgkgglldokaaLawCanonical
namespace Go.Proofs.Ytdfkgkgglldokaa
open Go.RowKit Go.Maps
set_option linter.unusedVariables false

/-- lists that read -/
def Zs (w : World) : List (Option Addr × List Int) → Prop
  | [] => True
  | (A, z) :: L => Ints w w.heap.size A z ∧ Zs w L
theorem Zs.at {w w' : World} (hb : Below w.heap.size w w') : ∀ {L}, Zs w L → Zs w' L
  | [], _ => trivial
  | (_, _) :: _, h => ⟨h.1.at hb, Zs.at hb h.2⟩
theorem len6 {z : List Int} {n : Nat} (h : z.length = n) (hn : n ≤ 24) : z.length ≤ 1000000 := by omega
theorem len7 {z : List Int} {n : Nat} (h : z.length = n) (hn : n ≤ 24) : z.length ≤ 140737488351232 := by omega
theorem code0 {p q : List Int} {n : Nat} (h1 : Kp.vB p = true) (h2 : Kp.vB q = true) (l1 : p.length = n) (l2 : q.length = n) : Kp.code p q = 0 := Kp.code_ok h1 h2 (by rw [l1, l2])

set_option maxRecDepth 100000 in
set_option maxHeartbeats 8000000 in
theorem lattice_walk (A : Option Addr) (ca : Nat) (za : List Int) (B : Option Addr) (cb : Nat) (zb : List Int) (C : Option Addr) (cc : Nat) (zc : List Int) (w : World)
    (ha : Ints w w.heap.size A za) (hb : Ints w w.heap.size B zb) (hc : Ints w w.heap.size C zc) (hca : za.length ≤ ca) (hcb : zb.length ≤ cb) (hcc : zc.length ≤ cc) :
    Calls Try.prog 6 #[.slice A za.length ca, .slice B zb.length cb, .slice C zc.length cc] w fun e w' => e = .returned (.bool true) ∧ Below w.heap.size w w' := by
  go_enter Try.func6, Try.ntmps6
  go_wp2_with fail
  refine (known_ok w).mono ?_
  rintro e w1 ⟨rfl, B1⟩
  go_wp2_with fail
  refine (three_ok A ca za B cb zb C cc zc _ (ha.at B1) (hb.at B1) (hc.at B1) hca hcb hcc).mono ?_
  rintro e w2 ⟨n, hn, hn1, hn2, hn3, AP, cP, AQ, cQ, AR, cR, rfl, IP, IQ, IR, m⟩
  have B := bTrans B1 m
  have vP := Lib.hid (valid_ofL (za.take n))
  have vQ := Lib.hid (valid_ofL (zb.take n))
  have vR := Lib.hid (valid_ofL (zc.take n))
  have lP : Hid ((Kp.ofL (za.take n)).length = n) := Lib.hid (by rw [Kp.ofL_length, List.length_take]; omega)
  have lQ : Hid ((Kp.ofL (zb.take n)).length = n) := Lib.hid (by rw [Kp.ofL_length, List.length_take]; omega)
  have lR : Hid ((Kp.ofL (zc.take n)).length = n) := Lib.hid (by rw [Kp.ofL_length, List.length_take]; omega)
  clear m B1 hn1 hn2 hn3 ha hb hc
  have K : Zs w2 [(AP, Kp.ofL (za.take n)), (AQ, Kp.ofL (zb.take n)), (AR, Kp.ofL (zc.take n))] := ⟨IP, IQ, IR, trivial⟩
  clear IP IQ IR
  generalize Kp.ofL (za.take n) = P at *
  generalize Kp.ofL (zb.take n) = Q at *
  generalize Kp.ofL (zc.take n) = R at *
  go_wp2_with fail
  refine (lmeet_ok AP cP P AQ cQ Q _ K.1 K.2.1 (len6 lP.out hn) (len6 lQ.out hn) (code0 vP.out vQ.out lP.out lQ.out)).mono ?_
  rintro e u1 ⟨pq, Apq, cpq, hpq, rfl, hI, m⟩
  replace B := bTrans B m
  have K1 : Zs u1 ((Apq, pq) :: _) := ⟨hI, K.at m⟩
  clear K hI m
  have K := K1
  clear K1
  have vpq := Lib.hid hpq.v
  have lpq : Hid (pq.length = n) := Lib.hid (hpq.len.trans lP.out)
  have Hpq := Lib.hid hpq
  clear hpq
  go_wp2_with fail
  refine (lmeet_ok AQ cQ Q AP cP P _ K.2.2.1 K.2.1 (len6 lQ.out hn) (len6 lP.out hn) (code0 vQ.out vP.out lQ.out lP.out)).mono ?_
  rintro e u2 ⟨qp, Aqp, cqp, hqp, rfl, hI, m⟩
  replace B := bTrans B m
  have K1 : Zs u2 ((Aqp, qp) :: _) := ⟨hI, K.at m⟩
  clear K hI m
  have K := K1
  clear K1
  have vqp := Lib.hid hqp.v
  have lqp : Hid (qp.length = n) := Lib.hid (hqp.len.trans lQ.out)
  have Hqp := Lib.hid hqp
  clear hqp
  obtain rfl : pq = qp := Hpq.out.uniq (Hqp.out.comm (by rw [lQ.out, lP.out]))
  go_wp2_with fail
  refine (ljoin_ok AP cP P AQ cQ Q _ K.2.2.1 K.2.2.2.1 (len6 lP.out hn) (len6 lQ.out hn) (code0 vP.out vQ.out lP.out lQ.out)).mono ?_
  rintro e u3 ⟨jpq, Ajpq, cjpq, hjpq, rfl, hI, m⟩
  replace B := bTrans B m
  have K1 : Zs u3 ((Ajpq, jpq) :: _) := ⟨hI, K.at m⟩
  clear K hI m
  have K := K1
  clear K1
  have vjpq := Lib.hid hjpq.v
  have ljpq : Hid (jpq.length = n) := Lib.hid (hjpq.len.trans lP.out)
  have Hjpq := Lib.hid hjpq
  clear hjpq
  go_wp2_with fail
  refine (ljoin_ok AQ cQ Q AP cP P _ K.2.2.2.2.1 K.2.2.2.1 (len6 lQ.out hn) (len6 lP.out hn) (code0 vQ.out vP.out lQ.out lP.out)).mono ?_
  rintro e u4 ⟨jqp, Ajqp, cjqp, hjqp, rfl, hI, m⟩
  replace B := bTrans B m
  have K1 : Zs u4 ((Ajqp, jqp) :: _) := ⟨hI, K.at m⟩
  clear K hI m
  have K := K1
  clear K1
  have vjqp := Lib.hid hjqp.v
  have ljqp : Hid (jqp.length = n) := Lib.hid (hjqp.len.trans lQ.out)
  have Hjqp := Lib.hid hjqp
  clear hjqp
  obtain rfl : jpq = jqp := Hjpq.out.uniq (Hjqp.out.comm (by rw [lQ.out, lP.out]))
  go_wp2_with fail
  refine (seqi_any Apq Aqp cpq cqp pq pq _ K.2.2.2.1 K.2.2.1 (len7 lpq.out hn)).mono ?_
  rintro e u5 ⟨rfl, q5, rfl⟩
  rw [beq_self_eq_true]
  replace K := K.at (bDrew (Below.refl _ _) q5)
  replace B := bTrans B (bDrew (Below.refl _ _) q5)
  generalize World.drewN _ q5 = x5 at *
  go_wp2_with fail
  refine (seqi_any Ajpq Ajqp cjpq cjqp jpq jpq _ K.2.1 K.1 (len7 ljpq.out hn)).mono ?_
  rintro e u6 ⟨rfl, q6, rfl⟩
  rw [beq_self_eq_true]
  replace K := K.at (bDrew (Below.refl _ _) q6)
  replace B := bTrans B (bDrew (Below.refl _ _) q6)
  generalize World.drewN _ q6 = x6 at *
  go_wp2_with fail
  refine (lmeet_ok AQ cQ Q AR cR R _ K.2.2.2.2.2.1 K.2.2.2.2.2.2.1 (len6 lQ.out hn) (len6 lR.out hn) (code0 vQ.out vR.out lQ.out lR.out)).mono ?_
  rintro e u7 ⟨qr, Aqr, cqr, hqr, rfl, hI, m⟩
  replace B := bTrans B m
  have K1 : Zs u7 ((Aqr, qr) :: _) := ⟨hI, K.at m⟩
  clear K hI m
  have K := K1
  clear K1
  have vqr := Lib.hid hqr.v
  have lqr : Hid (qr.length = n) := Lib.hid (hqr.len.trans lQ.out)
  have Hqr := Lib.hid hqr
  clear hqr
  go_wp2_with fail
  refine (ljoin_ok AQ cQ Q AR cR R _ K.2.2.2.2.2.2.1 K.2.2.2.2.2.2.2.1 (len6 lQ.out hn) (len6 lR.out hn) (code0 vQ.out vR.out lQ.out lR.out)).mono ?_
  rintro e u8 ⟨jqr, Ajqr, cjqr, hjqr, rfl, hI, m⟩
  replace B := bTrans B m
  have K1 : Zs u8 ((Ajqr, jqr) :: _) := ⟨hI, K.at m⟩
  clear K hI m
  have K := K1
  clear K1
  have vjqr := Lib.hid hjqr.v
  have ljqr : Hid (jqr.length = n) := Lib.hid (hjqr.len.trans lQ.out)
  have Hjqr := Lib.hid hjqr
  clear hjqr
  go_wp2_with fail
  refine (bvalid_any Apq cpq pq _ K.2.2.2.2.2.1 (len6 lpq.out hn)).mono ?_
  rintro e w' ⟨rfl, rfl⟩
  rw [vpq.out]
  go_wp2_with fail
  refine (bvalid_any Ajpq cjpq jpq _ K.2.2.2.1 (len6 ljpq.out hn)).mono ?_
  rintro e w' ⟨rfl, rfl⟩
  rw [vjpq.out]
  go_wp2_with fail
  refine (bvalid_any Aqr cqr qr _ K.2.1 (len6 lqr.out hn)).mono ?_
  rintro e w' ⟨rfl, rfl⟩
  rw [vqr.out]
  go_wp2_with fail
  refine (bvalid_any Ajqr cjqr jqr _ K.1 (len6 ljqr.out hn)).mono ?_
  rintro e w' ⟨rfl, rfl⟩
  rw [vjqr.out]
  go_wp2_with fail
  refine (lmeet_ok Apq cpq pq AR cR R _ K.2.2.2.2.2.1 K.2.2.2.2.2.2.2.2.1 (len6 lpq.out hn) (len6 lR.out hn) (code0 vpq.out vR.out lpq.out lR.out)).mono ?_
  rintro e u9 ⟨lf, Alf, clf, hlf, rfl, hI, m⟩
  replace B := bTrans B m
  have K1 : Zs u9 ((Alf, lf) :: _) := ⟨hI, K.at m⟩
  clear K hI m
  have K := K1
  clear K1
  have vlf := Lib.hid hlf.v
  have llf : Hid (lf.length = n) := Lib.hid (hlf.len.trans lpq.out)
  have Hlf := Lib.hid hlf
  clear hlf
  go_wp2_with fail
  refine (lmeet_ok AP cP P Aqr cqr qr _ K.2.2.2.2.2.2.2.1 K.2.2.1 (len6 lP.out hn) (len6 lqr.out hn) (code0 vP.out vqr.out lP.out lqr.out)).mono ?_
  rintro e u10 ⟨rt, Art, crt, hrt, rfl, hI, m⟩
  replace B := bTrans B m
  have K1 : Zs u10 ((Art, rt) :: _) := ⟨hI, K.at m⟩
  clear K hI m
  have K := K1
  clear K1
  have vrt := Lib.hid hrt.v
  have lrt : Hid (rt.length = n) := Lib.hid (hrt.len.trans lP.out)
  have Hrt := Lib.hid hrt
  clear hrt
  obtain rfl : lf = rt := Kp.meet_assoc Hpq.out Hqr.out Hlf.out Hrt.out (by rw [lP.out, lQ.out])
  go_wp2_with fail
  refine (ljoin_ok Ajpq cjpq jpq AR cR R _ K.2.2.2.2.2.1 K.2.2.2.2.2.2.2.2.2.2.1 (len6 ljpq.out hn) (len6 lR.out hn) (code0 vjpq.out vR.out ljpq.out lR.out)).mono ?_
  rintro e u11 ⟨up, Aup, cup, hup, rfl, hI, m⟩
  replace B := bTrans B m
  have K1 : Zs u11 ((Aup, up) :: _) := ⟨hI, K.at m⟩
  clear K hI m
  have K := K1
  clear K1
  have vup := Lib.hid hup.v
  have lup : Hid (up.length = n) := Lib.hid (hup.len.trans ljpq.out)
  have Hup := Lib.hid hup
  clear hup
  go_wp2_with fail
  refine (ljoin_ok AP cP P Ajqr cjqr jqr _ K.2.2.2.2.2.2.2.2.2.1 K.2.2.2.1 (len6 lP.out hn) (len6 ljqr.out hn) (code0 vP.out vjqr.out lP.out ljqr.out)).mono ?_
  rintro e u12 ⟨dn, Adn, cdn, hdn, rfl, hI, m⟩
  replace B := bTrans B m
  have K1 : Zs u12 ((Adn, dn) :: _) := ⟨hI, K.at m⟩
  clear K hI m
  have K := K1
  clear K1
  have vdn := Lib.hid hdn.v
  have ldn : Hid (dn.length = n) := Lib.hid (hdn.len.trans lP.out)
  have Hdn := Lib.hid hdn
  clear hdn
  obtain rfl : up = dn := Kp.join_assoc Hjpq.out Hjqr.out Hup.out Hdn.out (by rw [lP.out, lQ.out])
  go_wp2_with fail
  refine (seqi_any Alf Art clf crt lf lf _ K.2.2.2.1 K.2.2.1 (len7 llf.out hn)).mono ?_
  rintro e u13 ⟨rfl, q13, rfl⟩
  rw [beq_self_eq_true]
  replace K := K.at (bDrew (Below.refl _ _) q13)
  replace B := bTrans B (bDrew (Below.refl _ _) q13)
  generalize World.drewN _ q13 = x13 at *
  go_wp2_with fail
  refine (seqi_any Aup Adn cup cdn up up _ K.2.1 K.1 (len7 lup.out hn)).mono ?_
  rintro e u14 ⟨rfl, q14, rfl⟩
  rw [beq_self_eq_true]
  replace K := K.at (bDrew (Below.refl _ _) q14)
  replace B := bTrans B (bDrew (Below.refl _ _) q14)
  generalize World.drewN _ q14 = x14 at *
  go_wp2_with fail
  refine (lmeet_ok AP cP P AP cP P _ K.2.2.2.2.2.2.2.2.2.2.1 K.2.2.2.2.2.2.2.2.2.2.1 (len6 lP.out hn) (len6 lP.out hn) (code0 vP.out vP.out lP.out lP.out)).mono ?_
  rintro e u15 ⟨sm, Asm, csm, hsm, rfl, hI, m⟩
  replace B := bTrans B m
  have K1 : Zs u15 ((Asm, sm) :: _) := ⟨hI, K.at m⟩
  clear K hI m
  have K := K1
  clear K1
  have vsm := Lib.hid hsm.v
  have lsm : Hid (sm.length = n) := Lib.hid (hsm.len.trans lP.out)
  have Hsm := Lib.hid hsm
  clear hsm
  obtain rfl : P = sm := (Kp.meet_self vP.out Hsm.out).symm
  go_wp2_with fail
  refine (ljoin_ok AP cP P AP cP P _ K.2.2.2.2.2.2.2.2.2.2.2.1 K.2.2.2.2.2.2.2.2.2.2.2.1 (len6 lP.out hn) (len6 lP.out hn) (code0 vP.out vP.out lP.out lP.out)).mono ?_
  rintro e u16 ⟨al, Aal, cal, hal, rfl, hI, m⟩
  replace B := bTrans B m
  have K1 : Zs u16 ((Aal, al) :: _) := ⟨hI, K.at m⟩
  clear K hI m
  have K := K1
  clear K1
  have val := Lib.hid hal.v
  have lal : Hid (al.length = n) := Lib.hid (hal.len.trans lP.out)
  have Hal := Lib.hid hal
  clear hal
  obtain rfl : P = al := (Kp.join_self vP.out Hal.out).symm
  go_wp2_with fail
  refine (lmeet_ok AP cP P Ajpq cjpq jpq _ K.2.2.2.2.2.2.2.2.2.2.2.2.1 K.2.2.2.2.2.2.2.2.2.1 (len6 lP.out hn) (len6 ljpq.out hn) (code0 vP.out vjpq.out lP.out ljpq.out)).mono ?_
  rintro e u17 ⟨xx, Axx, cxx, hxx, rfl, hI, m⟩
  replace B := bTrans B m
  have K1 : Zs u17 ((Axx, xx) :: _) := ⟨hI, K.at m⟩
  clear K hI m
  have K := K1
  clear K1
  have vxx := Lib.hid hxx.v
  have lxx : Hid (xx.length = n) := Lib.hid (hxx.len.trans lP.out)
  have Hxx := Lib.hid hxx
  clear hxx
  obtain rfl : P = xx := (Kp.meet_absorb vP.out Hjpq.out Hxx.out).symm
  go_wp2_with fail
  refine (ljoin_ok AP cP P Apq cpq pq _ K.2.2.2.2.2.2.2.2.2.2.2.2.2.1 K.2.2.2.2.2.2.2.2.2.2.2.2.1 (len6 lP.out hn) (len6 lpq.out hn) (code0 vP.out vpq.out lP.out lpq.out)).mono ?_
  rintro e u18 ⟨yy, Ayy, cyy, hyy, rfl, hI, m⟩
  replace B := bTrans B m
  have K1 : Zs u18 ((Ayy, yy) :: _) := ⟨hI, K.at m⟩
  clear K hI m
  have K := K1
  clear K1
  have vyy := Lib.hid hyy.v
  have lyy : Hid (yy.length = n) := Lib.hid (hyy.len.trans lP.out)
  have Hyy := Lib.hid hyy
  clear hyy
  obtain rfl : P = yy := (Kp.join_absorb vP.out Hpq.out Hyy.out).symm
  go_wp2_with fail
  refine (seqi_any Asm AP csm cP P P _ K.2.2.2.1 K.2.2.2.2.2.2.2.2.2.2.2.2.2.2.1 (len7 lP.out hn)).mono ?_
  rintro e u19 ⟨rfl, q19, rfl⟩
  rw [beq_self_eq_true]
  replace K := K.at (bDrew (Below.refl _ _) q19)
  replace B := bTrans B (bDrew (Below.refl _ _) q19)
  generalize World.drewN _ q19 = x19 at *
  go_wp2_with fail
  refine (seqi_any Aal AP cal cP P P _ K.2.2.1 K.2.2.2.2.2.2.2.2.2.2.2.2.2.2.1 (len7 lP.out hn)).mono ?_
  rintro e u20 ⟨rfl, q20, rfl⟩
  rw [beq_self_eq_true]
  replace K := K.at (bDrew (Below.refl _ _) q20)
  replace B := bTrans B (bDrew (Below.refl _ _) q20)
  generalize World.drewN _ q20 = x20 at *
  go_wp2_with fail
  refine (seqi_any Axx AP cxx cP P P _ K.2.1 K.2.2.2.2.2.2.2.2.2.2.2.2.2.2.1 (len7 lP.out hn)).mono ?_
  rintro e u21 ⟨rfl, q21, rfl⟩
  rw [beq_self_eq_true]
  replace K := K.at (bDrew (Below.refl _ _) q21)
  replace B := bTrans B (bDrew (Below.refl _ _) q21)
  generalize World.drewN _ q21 = x21 at *
  go_wp2_with fail
  refine (seqi_any Ayy AP cyy cP P P _ K.1 K.2.2.2.2.2.2.2.2.2.2.2.2.2.2.1 (len7 lP.out hn)).mono ?_
  rintro e u22 ⟨rfl, q22, rfl⟩
  rw [beq_self_eq_true]
  replace K := K.at (bDrew (Below.refl _ _) q22)
  replace B := bTrans B (bDrew (Below.refl _ _) q22)
  generalize World.drewN _ q22 = x22 at *
  go_wp2_with fail
  go_ret
  exact ⟨rfl, B⟩
end Go.Proofs.Ytdfkgkgglldokaa
