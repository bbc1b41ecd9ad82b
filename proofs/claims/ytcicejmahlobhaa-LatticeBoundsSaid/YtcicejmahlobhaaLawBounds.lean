/- The law LatticeBounds, walked. -/
import Derived.Test.YtcicejmahlobhaaNe
namespace Go.Proofs.Ytcicejmahlobhaa
open Go.RowKit Go.Maps
set_option linter.unusedVariables false

set_option maxRecDepth 100000 in
set_option maxHeartbeats 4000000 in
theorem bounds_walk (A : Option Addr) (c : Nat) (ns : List ByteArray) (B : Option Addr) (cb : Nat) (ps : List (Int × Int)) (x y : Int) (w : World) (h : Strs w w.heap.size A ns) (hp : Prs w w.heap.size B ps) (hx : -9223372036854775808 ≤ x ∧ x ≤ 9223372036854775807) (hy : -9223372036854775808 ≤ y ∧ y ≤ 9223372036854775807) :
    Calls Try.prog 5 #[.slice A ns.length c, .slice B ps.length cb, .agg #[.int .i64 x, .int .i64 y]] w fun e w' => e = .returned (.bool true) ∧ Below w.heap.size w w' := by
  have X0 := BoxW.new_ w #[.int .i64 x, .int .i64 y] 40
  go_enter Try.func5, Try.ntmps5
  go_wp2_with fail
  refine (known_ok _).mono ?_
  rintro e w1 ⟨rfl, b1⟩
  have X1 := X0.below b1
  clear X0 b1
  go_wp2_with fail
  refine (made_any A c ns B cb ps _ (h.at X1.bel) (hp.at X1.bel)).mono ?_
  rintro e w2 ⟨b2, rfl | ⟨_, hz, lb, An, cn, Al, cl, rfl, hB⟩⟩
  · have X2 := X1.below b2
    clear X1 b2
    unfold rlV
    go_wp2_with fail
    go_ret
    exact ⟨rfl, X2.bel.alloc X2.bel.size _⟩
  have X3 := (X1.below b2).law hB 32
  obtain ⟨hn12, hn0, hL, _, _⟩ := Kl.newC_lat hz
  clear hB X1 b2 hz
  unfold rlV
  go_wp2_with fail
  revert X3
  generalize w2.alloc (.cells #[.slice An ns.length cn, .slice Al ns.length cl] 32) = w3
  generalize w2.heap.size = b8
  generalize Kl.le ns.length ps = L at *
  intro X3
  have HL := Lib.hid hL
  clear hL
  have d0 := X3.cell (k := 0) rfl
  have d1 := X3.cell (k := 1) rfl
  go_quiet (fail)
  have X4 := X3.below (bDrewN w3 nq)
  clear d0 d1 X3
  revert X4
  generalize w3.drewN nq = w4
  intro X4
  obtain ⟨An', cn', M, Aa, ca, Ab, cb', hP, _, _⟩ := X4.B.P
  have HZ : ((Kl.num none : Nat) : Int) = 0 ∧ Kl.jaC none = 3 := ⟨rfl, rfl⟩
  cases h1 : lvB x ns.length with
  | false =>
    have HJ := Lib.hid (show Kl.jpO L ns.length x y = none by unfold Kl.jpO; rw [h1]; rfl)
    have HM := Lib.hid (show Kl.jpO (Kl.flip L) ns.length x y = none by unfold Kl.jpO; rw [h1]; rfl)
    have H1 := Lib.hid h1
    clear h1
    go_wp2_with fail
    refine (join_ok HL.out hn12 hn0 x y _ hP hx hy).mono ?_
    rintro e w5 ⟨rfl, b5⟩
    rw [HJ.out, HZ.1, HZ.2]
    have X5 := X4.below b5
    have hP5 := hP.below b5
    clear X4 b5 hP
    go_wp2_with fail
    refine (meet_ok hn12 x y _ hP5).mono ?_
    rintro e w6 ⟨rfl, b6⟩
    rw [HM.out, HZ.1, HZ.2]
    have X6 := X5.below b6
    clear X5 b6 hP5
    have r0 := X6.R.c0
    have r1 := X6.R.c1
    go_wp2_with fail
    refine (in_any An ns.length cn Al cl x _).mono ?_
    rintro e w7 ⟨rfl, b7⟩
    have X7 := X6.below b7
    clear X6 b7 r0 r1
    rw [H1.out]
    go_wp2_with fail
    go_ret
    exact ⟨rfl, X7.bel⟩
  | true =>
    cases h2 : lvB y ns.length with
    | false =>
      have HJ := Lib.hid (show Kl.jpO L ns.length x y = none by unfold Kl.jpO; rw [h2]; simp)
      have HM := Lib.hid (show Kl.jpO (Kl.flip L) ns.length x y = none by unfold Kl.jpO; rw [h2]; simp)
      have H1 := Lib.hid h1
      have H2 := Lib.hid h2
      clear h1 h2
      go_wp2_with fail
      refine (join_ok HL.out hn12 hn0 x y _ hP hx hy).mono ?_
      rintro e w5 ⟨rfl, b5⟩
      rw [HJ.out, HZ.1, HZ.2]
      have X5 := X4.below b5
      have hP5 := hP.below b5
      clear X4 b5 hP
      go_wp2_with fail
      refine (meet_ok hn12 x y _ hP5).mono ?_
      rintro e w6 ⟨rfl, b6⟩
      rw [HM.out, HZ.1, HZ.2]
      have X6 := X5.below b6
      clear X5 b6 hP5
      have r0 := X6.R.c0
      have r1 := X6.R.c1
      go_wp2_with fail
      refine (in_any An ns.length cn Al cl x _).mono ?_
      rintro e w7 ⟨rfl, b7⟩
      have X7 := X6.below b7
      clear X6 b7 r0 r1
      rw [H1.out]
      have r0 := X7.R.c0
      have r1 := X7.R.c1
      go_wp2_with fail
      refine (in_any An ns.length cn Al cl y _).mono ?_
      rintro e w8 ⟨rfl, b8⟩
      have X8 := X7.below b8
      clear X7 b8 r0 r1
      rw [H2.out]
      go_wp2_with fail
      go_ret
      exact ⟨rfl, X8.bel⟩
    | true =>
      have H1 := Lib.hid h1
      have H2 := Lib.hid h2
      obtain ⟨i, rfl, hi⟩ := lvB_nat' h1
      obtain ⟨j, rfl, hj⟩ := lvB_nat' h2
      obtain ⟨c1, q1⟩ := Option.isSome_iff_exists.1 (HL.out.all i j hi hj).1
      obtain ⟨c2, q2⟩ := Option.isSome_iff_exists.1 (HL.out.all i j hi hj).2
      have HJ := Lib.hid (show Kl.jpO L ns.length i j = some c1 by unfold Kl.jpO; rw [h1, h2]; simp [Int.toNat_natCast, q1, Kl.num])
      have HM := Lib.hid (show Kl.jpO (Kl.flip L) ns.length i j = some c2 by unfold Kl.jpO; rw [h1, h2]; simp [Int.toNat_natCast, q2, Kl.num])
      have Q1 := Lib.hid q1
      have Q2 := Lib.hid q2
      have HS : ∀ c : Nat, ((Kl.num (some c) : Nat) : Int) = (c : Int) ∧ Kl.jaC (some c) = 0 ∧ Kl.numI (some c) = (c : Int) := fun c => ⟨rfl, rfl, rfl⟩
      have HS1 := Lib.hid (HS c1)
      have HS2 := Lib.hid (HS c2)
      clear h1 h2 q1 q2 HS HZ
      go_wp2_with fail
      refine (join_ok HL.out hn12 hn0 (i : Int) (j : Int) _ hP hx hy).mono ?_
      rintro e w5 ⟨rfl, b5⟩
      rw [HJ.out, HS1.out.1, HS1.out.2.1]
      have X5 := X4.below b5
      have hP5 := hP.below b5
      clear X4 b5 hP
      go_wp2_with fail
      refine (meet_ok hn12 (i : Int) (j : Int) _ hP5).mono ?_
      rintro e w6 ⟨rfl, b6⟩
      rw [HM.out, HS2.out.1, HS2.out.2.1]
      have X6 := X5.below b6
      clear X5 b6 hP5
      have r0 := X6.R.c0
      have r1 := X6.R.c1
      go_wp2_with fail
      refine (in_any An ns.length cn Al cl (i : Int) _).mono ?_
      rintro e w7 ⟨rfl, b7⟩
      have X7 := X6.below b7
      clear X6 b7 r0 r1
      rw [H1.out]
      have r0 := X7.R.c0
      have r1 := X7.R.c1
      go_wp2_with fail
      refine (in_any An ns.length cn Al cl (j : Int) _).mono ?_
      rintro e w8 ⟨rfl, b8⟩
      have X8 := X7.below b8
      clear X7 b8 r0 r1
      rw [H2.out]
      have r0 := X8.R.c0
      have r1 := X8.R.c1
      go_wp2_with fail
      refine (rjoin_ok An ns.length cn Al cl hn12 L HL.out.pre i j hi hj _ X8.B.E).mono ?_
      rintro e w9 ⟨rfl, b9⟩
      have X9 := X8.below b9
      clear X8 b9 r0 r1
      rw [Q1.out, HS1.out.2.2]
      have r0 := X9.R.c0
      have r1 := X9.R.c1
      go_wp2_with fail
      refine (rmeet_ok An ns.length cn Al cl hn12 L HL.out.pre i j hi hj _ X9.B.E).mono ?_
      rintro e wa ⟨rfl, ba⟩
      have Xa := X9.below ba
      clear X9 ba r0 r1
      rw [Q2.out, HS2.out.2.2]
      go_wp2_with fail
      go_ret
      exact ⟨rfl, Xa.bel⟩
end Go.Proofs.Ytcicejmahlobhaa
