/- The law LatticeOrder, walked. -/
import Derived.Test.YtcicejmahlobhaaNe
namespace Go.Proofs.Ytcicejmahlobhaa
open Go.RowKit Go.Maps
set_option linter.unusedVariables false

set_option maxRecDepth 100000 in
set_option maxHeartbeats 4000000 in
theorem order_walk (A : Option Addr) (c : Nat) (ns : List ByteArray) (B : Option Addr) (cb : Nat) (ps : List (Int × Int)) (x y : Int) (w : World) (h : Strs w w.heap.size A ns) (hp : Prs w w.heap.size B ps) :
    Calls Try.prog 4 #[.slice A ns.length c, .slice B ps.length cb, .agg #[.int .i64 x, .int .i64 y]] w fun e w' => e = .returned (.bool true) ∧ Below w.heap.size w w' := by
  have X0 := BoxW.new_ w #[.int .i64 x, .int .i64 y] 40
  go_enter Try.func4, Try.ntmps4
  go_wp2_with fail
  refine (known_ok _).mono ?_
  rintro e w1 ⟨rfl, b1⟩
  have X1 := X0.below b1
  clear X0 b1
  go_wp2_with fail
  refine (made_any A c ns B cb ps _ (h.at X1.bel) (hp.at X1.bel)).mono ?_
  rintro e w2 ⟨b2, rfl | ⟨_, hz, lb, An, cn, Al, cl, rfl, hB⟩⟩
  · have X2 := X1.below b2
    clear X1 b2
    unfold rlV
    go_wp2_with fail
    go_ret
    exact ⟨rfl, X2.bel.alloc X2.bel.size _⟩
  have X3 := (X1.below b2).law hB 32
  obtain ⟨hn12, hn0, hL, _, _⟩ := Kl.newC_lat hz
  clear hB X1 b2 hz
  unfold rlV
  go_wp2_with fail
  revert X3
  generalize w2.alloc (.cells #[.slice An ns.length cn, .slice Al ns.length cl] 32) = w3
  generalize w2.heap.size = b8
  generalize Kl.le ns.length ps = L at *
  intro X3
  have d0 := X3.cell (k := 0) rfl
  have d1 := X3.cell (k := 1) rfl
  go_quiet (fail)
  have X4 := X3.below (bDrewN w3 nq)
  clear d0 d1 X3
  revert X4
  generalize w3.drewN nq = w4
  intro X4
  have r0 := X4.R.c0
  have r1 := X4.R.c1
  go_wp2_with fail
  refine (in_any An ns.length cn Al cl x _).mono ?_
  rintro e w5 ⟨rfl, b5⟩
  have X5 := X4.below b5
  clear X4 b5 r0 r1
  cases h1 : lvB x ns.length with
  | false =>
    have HB := Lib.hid (show beB L ns.length x y = false by unfold beB; rw [h1]; rfl)
    clear h1
    go_wp2_with fail
    obtain ⟨An', cn', M, Aa, ca, Ab, cb', hP, _, _⟩ := X5.B.P
    refine (below_ok hn12 x y _ hP).mono ?_
    rintro e w6 ⟨rfl, rfl⟩
    rw [HB.out]
    go_wp2_with fail
    go_ret
    exact ⟨rfl, X5.bel⟩
  | true =>
    have r0 := X5.R.c0
    have r1 := X5.R.c1
    have H1 := Lib.hid h1
    clear h1
    go_wp2_with fail
    refine (in_any An ns.length cn Al cl y _).mono ?_
    rintro e w6 ⟨rfl, b6⟩
    have X6 := X5.below b6
    clear X5 b6 r0 r1
    obtain ⟨An', cn', M, Aa, ca, Ab, cb', hP, _, _⟩ := X6.B.P
    cases h2 : lvB y ns.length with
    | false =>
      have HB := Lib.hid (show beB L ns.length x y = false by unfold beB; rw [h2]; simp)
      clear h2
      go_wp2_with fail
      refine (below_ok hn12 x y _ hP).mono ?_
      rintro e w7 ⟨rfl, rfl⟩
      rw [HB.out]
      go_wp2_with fail
      go_ret
      exact ⟨rfl, X6.bel⟩
    | true =>
      obtain ⟨i, rfl, hi⟩ := lvB_nat' H1.out
      obtain ⟨j, rfl, hj⟩ := lvB_nat' h2
      obtain ⟨bk, off, g, rfl, _, hrow, _, hc⟩ := X6.B.E.at_ hi
      have hcell := hc.out j hj
      have hcall : ∀ m, Calls Try.prog 20 #[.pointer (some ⟨lb, 0, none⟩), .int .i64 (i : Int), .int .i64 (j : Int)] (w6.drewN m) fun e w' => e = .returned (.bool (L i j)) ∧ w6.drewN m = w' := fun m => by
        have := below_ok hn12 (i : Int) (j : Int) (w6.drewN m) (hP.below (bDrewN w6 m))
        rw [show beB L ns.length i j = L i j by unfold beB; rw [H1.out, h2]; rfl] at this
        exact this
      have HC := Lib.hid hcall
      have r0 := X6.R.c0
      have r1 := X6.R.c1
      have hiI : (i : Int) < (ns.length : Int) := by omega
      have hjI : (j : Int) < (ns.length : Int) := by omega
      have hbel := X6.bel
      clear hcall hc H1 h2 hP X6
      revert hcell HC
      generalize L i j = z
      intro hcell HC
      go_wp2_with fail
      cases z with
      | true =>
        go_quiet ((go_at_call 20; exact quiet_of_eq (HC.out _)))
        go_wp2_with fail
        go_ret
        exact ⟨rfl, hbel.trans ((bDrewN w6 _).mono hbel.size)⟩
      | false =>
        go_quiet ((go_at_call 20; exact quiet_of_eq (HC.out _)))
        go_wp2_with fail
        go_ret
        exact ⟨rfl, hbel.trans ((bDrewN w6 _).mono hbel.size)⟩
end Go.Proofs.Ytcicejmahlobhaa
