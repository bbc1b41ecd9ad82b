/- The law LatticeLaws, walked. -/
import Derived.Test.YtcicejmahlobhaaNlm
namespace Go.Proofs.Ytcicejmahlobhaa
open Go.RowKit Go.Maps
set_option linter.unusedVariables false

set_option maxRecDepth 100000 in
set_option maxHeartbeats 40000000 in
theorem laws_walk (A : Option Addr) (c : Nat) (ns : List ByteArray) (B : Option Addr) (cb : Nat) (ps : List (Int × Int)) (x y z : Int) (w : World) (h : Strs w w.heap.size A ns) (hp : Prs w w.heap.size B ps) :
    Calls Try.prog 6 #[.slice A ns.length c, .slice B ps.length cb, .agg #[.int .i64 x, .int .i64 y, .int .i64 z]] w fun e w' => e = .returned (.bool true) ∧ Below w.heap.size w w' := by
  have X0 := BoxW.new_ w #[.int .i64 x, .int .i64 y, .int .i64 z] 50
  go_enter Try.func6, Try.ntmps6
  go_wp2_with fail
  refine (known_ok _).mono ?_
  rintro e w1 ⟨rfl, b1⟩
  have X1 := X0.below b1
  clear X0 b1
  go_wp2_with fail
  refine (made_any A c ns B cb ps _ (h.at X1.bel) (hp.at X1.bel)).mono ?_
  rintro e w2 ⟨b2, rfl | ⟨_, hz, lb, An, cn, Al, cl, rfl, hB⟩⟩
  · have X2 := X1.below b2
    clear X1 b2
    unfold rlV
    go_wp2_with fail
    go_ret
    exact ⟨rfl, X2.bel.alloc X2.bel.size _⟩
  have X2 := X1.below b2
  have X3 := X2.law hB 32
  obtain ⟨hn12, hn0, hL, _, _⟩ := Kl.newC_lat hz
  clear hB X1 b2 hz
  have c0 : w2.cell? ⟨w.heap.size, 0, none⟩ = some (.int .i64 x) := X2.cell rfl
  have c1 : w2.cell? ⟨w.heap.size, 1, none⟩ = some (.int .i64 y) := X2.cell rfl
  have c2 : w2.cell? ⟨w.heap.size, 2, none⟩ = some (.int .i64 z) := X2.cell rfl
  have d0 : (w2.alloc (.cells #[.slice An ns.length cn, .slice Al ns.length cl] 32)).cell? ⟨w.heap.size, 0, none⟩ = some (.int .i64 x) := X3.cell rfl
  have d1 : (w2.alloc (.cells #[.slice An ns.length cn, .slice Al ns.length cl] 32)).cell? ⟨w.heap.size, 1, none⟩ = some (.int .i64 y) := X3.cell rfl
  have d2 : (w2.alloc (.cells #[.slice An ns.length cn, .slice Al ns.length cl] 32)).cell? ⟨w.heap.size, 2, none⟩ = some (.int .i64 z) := X3.cell rfl
  have dl := X2.lt
  unfold rlV
  go_wp2_with fail
  clear c0 c1 c2 d0 d1 d2 dl X2
  revert X3
  generalize w2.alloc (.cells #[.slice An ns.length cn, .slice Al ns.length cl] 32) = w3
  generalize w2.heap.size = b8
  generalize Kl.le ns.length ps = L at *
  intro X3
  have HL := Lib.hid hL
  clear hL
  have i0 : ∀ W, (Instr.index 50 (.agg #[.int .i64 x, .int .i64 y, .int .i64 z]) (.int .i64 0)).run Try.prog W = .ok (.int .i64 x) W := fun _ => by kernel_rfl
  have i1 : ∀ W, (Instr.index 50 (.agg #[.int .i64 x, .int .i64 y, .int .i64 z]) (.int .i64 1)).run Try.prog W = .ok (.int .i64 y) W := fun _ => by kernel_rfl
  have i2 : ∀ W, (Instr.index 50 (.agg #[.int .i64 x, .int .i64 y, .int .i64 z]) (.int .i64 2)).run Try.prog W = .ok (.int .i64 z) W := fun _ => by kernel_rfl
  go_loopw [31] (fun kv wr => LawW w wr #[.int .i64 x, .int .i64 y, .int .i64 z] b8 lb An cn Al cl ns L ∧ ((kv = .int .i64 0) ∨ (kv = .int .i64 1 ∧ Hid (lvB x ns.length = true)) ∨ (kv = .int .i64 2 ∧ Hid (lvB x ns.length = true ∧ lvB y ns.length = true)) ∨ (kv = .int .i64 3 ∧ Hid (lvB x ns.length = true ∧ lvB y ns.length = true ∧ lvB z ns.length = true)))) (fun kv _ => 3 - (intOf kv).toNat)
  case atStart => exact ⟨X3, .inl rfl⟩
  case round =>
    clear X3
    obtain ⟨X, rfl | ⟨rfl, hx⟩ | ⟨rfl, hxy⟩ | ⟨rfl, hall⟩⟩ := hrel
    · have r0 := X.R.c0
      have r1 := X.R.c1
      go_wp2_with fail
      refine (in_any An ns.length cn Al cl x _).mono ?_
      rintro e w5 ⟨rfl, b5⟩
      have X5 := X.below b5
      clear X b5 r0 r1
      cases h1 : lvB x ns.length with
      | false =>
        clear h1
        go_wp2_with fail
        go_ret
        exact ⟨rfl, X5.bel⟩
      | true =>
        have H1 := Lib.hid h1
        clear h1
        go_wp2_with fail
        go_roundw
        case rel => exact ⟨X5, .inr (.inl ⟨rfl, Lib.hid H1.out⟩)⟩
        case measure => simp [intOf]
    · have r0 := X.R.c0
      have r1 := X.R.c1
      go_wp2_with fail
      refine (in_any An ns.length cn Al cl y _).mono ?_
      rintro e w5 ⟨rfl, b5⟩
      have X5 := X.below b5
      clear X b5 r0 r1
      cases h1 : lvB y ns.length with
      | false =>
        clear h1
        go_wp2_with fail
        go_ret
        exact ⟨rfl, X5.bel⟩
      | true =>
        have H1 := Lib.hid h1
        clear h1
        go_wp2_with fail
        go_roundw
        case rel => exact ⟨X5, .inr (.inr (.inl ⟨rfl, Lib.hid ⟨hx.out, H1.out⟩⟩))⟩
        case measure => simp [intOf]
    · have r0 := X.R.c0
      have r1 := X.R.c1
      go_wp2_with fail
      refine (in_any An ns.length cn Al cl z _).mono ?_
      rintro e w5 ⟨rfl, b5⟩
      have X5 := X.below b5
      clear X b5 r0 r1
      cases h1 : lvB z ns.length with
      | false =>
        clear h1
        go_wp2_with fail
        go_ret
        exact ⟨rfl, X5.bel⟩
      | true =>
        have H1 := Lib.hid h1
        clear h1
        go_wp2_with fail
        go_roundw
        case rel => exact ⟨X5, .inr (.inr (.inr ⟨rfl, Lib.hid ⟨hxy.out.1, hxy.out.2, H1.out⟩⟩))⟩
        case measure => simp [intOf]
    · clear i0 i1 i2
      obtain ⟨i, rfl, hi⟩ := lvB_nat' hall.out.1
      obtain ⟨j, rfl, hj⟩ := lvB_nat' hall.out.2.1
      obtain ⟨k, rfl, hk⟩ := lvB_nat' hall.out.2.2
      have G := HL.out
      have F := G.flip_
      have hp1 := G.J_lt hi hj
      have hq1 := F.J_lt hi hj
      have hs1 := G.J_lt hj hk
      have hu1 := F.J_lt hj hk
      have A1 := Lib.hid (ljoin_ok (lb := lb) G hn12 hn0 hi hj rfl)
      have A2 := Lib.hid (ljoin_ok (lb := lb) G hn12 hn0 hj hi (Kl.J_comm L ns.length j i))
      have A3 := Lib.hid (lmeet_ok (lb := lb) (L := L) hn12 hi hj rfl)
      have A4 := Lib.hid (lmeet_ok (lb := lb) (L := L) hn12 hj hi (Kl.J_comm (Kl.flip L) ns.length j i))
      have A5 := Lib.hid (ljoin_ok (lb := lb) G hn12 hn0 hi hi (G.J_idem hi))
      have A6 := Lib.hid (lmeet_ok (lb := lb) (L := L) hn12 hi hi (F.J_idem hi))
      have A7 := Lib.hid (ljoin_ok (lb := lb) G hn12 hn0 hp1 hk rfl)
      have A8 := Lib.hid (ljoin_ok (lb := lb) G hn12 hn0 hj hk rfl)
      have A9 := Lib.hid (ljoin_ok (lb := lb) G hn12 hn0 hi hs1 (G.J_assoc hi hj hk).symm)
      have Aa := Lib.hid (lmeet_ok (lb := lb) (L := L) hn12 hq1 hk rfl)
      have Ab := Lib.hid (lmeet_ok (lb := lb) (L := L) hn12 hj hk rfl)
      have Ac := Lib.hid (lmeet_ok (lb := lb) (L := L) hn12 hi hu1 (F.J_assoc hi hj hk).symm)
      have Ad := Lib.hid (ljoin_ok (lb := lb) G hn12 hn0 hi hq1 (G.J_M hi hj))
      have Ae := Lib.hid (lmeet_ok (lb := lb) (L := L) hn12 hi hp1 (G.M_J hi hj))
      obtain ⟨v, hv⟩ : ∃ v, L i j = v := ⟨_, rfl⟩
      have Af := Lib.hid (lbelow_ok (lb := lb) (L := L) hn12 hi hj hv)
      have E1 := Lib.hid (G.J_le hi hj)
      have E2 := Lib.hid (G.M_le hi hj)
      rw [hv] at E1 E2
      clear G F hp1 hq1 hs1 hu1 hv hall HL
      revert A1 A2 A3 A4 A5 A6 A7 A8 A9 Aa Ab Ac Ad Ae Af E1 E2
      generalize Kl.J L ns.length (Kl.J L ns.length i j) k = r
      generalize Kl.J (Kl.flip L) ns.length (Kl.J (Kl.flip L) ns.length i j) k = t
      generalize Kl.J L ns.length i j = p
      generalize Kl.J (Kl.flip L) ns.length i j = q
      generalize Kl.J L ns.length j k = s
      generalize Kl.J (Kl.flip L) ns.length j k = u
      intro A1 A2 A3 A4 A5 A6 A7 A8 A9 Aa Ab Ac Ad Ae Af E1 E2
      have d0 := X.cell (k := 0) rfl
      have d1 := X.cell (k := 1) rfl
      have d2 := X.cell (k := 2) rfl
      go_wp2_with fail
      go_quiet (fail)
      replace X := X.below (bDrewN _ nq)
      clear d0 d1 d2
      revert X
      generalize World.drewN _ nq = w5
      intro X
      go_wp2_with fail
      refine (A1.out _ X.B.P).mono ?_
      rintro e w9 ⟨rfl, b9⟩
      replace X := X.below b9
      clear b9
      go_wp2_with fail
      refine (A2.out _ X.B.P).mono ?_
      rintro e w9 ⟨rfl, b9⟩
      replace X := X.below b9
      clear b9
      go_upto_region 16 with (fail)
      go_cut [82] (fun s wx => s = .bool false ∧ LawW w wx #[.int .i64 (i : Int), .int .i64 (j : Int), .int .i64 (k : Int)] b8 lb An cn Al cl ns L)
      case first =>
        go_wp2_with fail
        refine (A3.out _ X.B.P).mono ?_
        rintro e w9 ⟨rfl, b9⟩
        replace X := X.below b9
        clear b9
        go_wp2_with fail
        refine (A4.out _ X.B.P).mono ?_
        rintro e w9 ⟨rfl, b9⟩
        replace X := X.below b9
        clear b9
        go_wp2_with fail
        refine (A5.out _ X.B.P).mono ?_
        rintro e w9 ⟨rfl, b9⟩
        replace X := X.below b9
        clear b9
        go_wp2_with fail
        refine (A6.out _ X.B.P).mono ?_
        rintro e w9 ⟨rfl, b9⟩
        replace X := X.below b9
        clear b9
        go_wp2_with fail
        go_meet
        exact ⟨rfl, X⟩
      case rest =>
      clear X
      obtain ⟨rfl, X⟩ := hcut
      go_upto_region 18 with (fail)
      go_cut [111] (fun s wx => s = .bool false ∧ LawW w wx #[.int .i64 (i : Int), .int .i64 (j : Int), .int .i64 (k : Int)] b8 lb An cn Al cl ns L)
      case first =>
        go_wp2_with fail
        refine (A7.out _ X.B.P).mono ?_
        rintro e w9 ⟨rfl, b9⟩
        replace X := X.below b9
        clear b9
        go_wp2_with fail
        refine (A8.out _ X.B.P).mono ?_
        rintro e w9 ⟨rfl, b9⟩
        replace X := X.below b9
        clear b9
        go_wp2_with fail
        refine (A9.out _ X.B.P).mono ?_
        rintro e w9 ⟨rfl, b9⟩
        replace X := X.below b9
        clear b9
        go_wp2_with fail
        refine (A3.out _ X.B.P).mono ?_
        rintro e w9 ⟨rfl, b9⟩
        replace X := X.below b9
        clear b9
        go_wp2_with fail
        refine (Aa.out _ X.B.P).mono ?_
        rintro e w9 ⟨rfl, b9⟩
        replace X := X.below b9
        clear b9
        go_wp2_with fail
        refine (Ab.out _ X.B.P).mono ?_
        rintro e w9 ⟨rfl, b9⟩
        replace X := X.below b9
        clear b9
        go_wp2_with fail
        refine (Ac.out _ X.B.P).mono ?_
        rintro e w9 ⟨rfl, b9⟩
        replace X := X.below b9
        clear b9
        go_wp2_with fail
        go_meet
        exact ⟨rfl, X⟩
      case rest =>
      clear X
      obtain ⟨rfl, X⟩ := hcut
      go_upto_region 20 with (fail)
      go_cut [128] (fun s wx => s = .bool false ∧ LawW w wx #[.int .i64 (i : Int), .int .i64 (j : Int), .int .i64 (k : Int)] b8 lb An cn Al cl ns L)
      case first =>
        go_wp2_with fail
        refine (A3.out _ X.B.P).mono ?_
        rintro e w9 ⟨rfl, b9⟩
        replace X := X.below b9
        clear b9
        go_wp2_with fail
        refine (Ad.out _ X.B.P).mono ?_
        rintro e w9 ⟨rfl, b9⟩
        replace X := X.below b9
        clear b9
        go_wp2_with fail
        refine (Ae.out _ X.B.P).mono ?_
        rintro e w9 ⟨rfl, b9⟩
        replace X := X.below b9
        clear b9
        go_wp2_with fail
        go_meet
        exact ⟨rfl, X⟩
      case rest =>
      clear X
      obtain ⟨rfl, X⟩ := hcut
      go_upto_region 22 with (fail)
      cases v with
      | true =>
        have e1 := E1.out.2 rfl
        have e2 := E2.out.2 rfl
        subst e1
        subst e2
        go_wp2_with fail
        refine (Af.out _ X.B.P).mono ?_
        rintro e w9 ⟨rfl, b9⟩
        replace X := X.below b9
        clear b9
        go_wp2_with fail
        refine (Af.out _ X.B.P).mono ?_
        rintro e w9 ⟨rfl, b9⟩
        replace X := X.below b9
        clear b9
        go_wp2_with fail
        refine (A3.out _ X.B.P).mono ?_
        rintro e w9 ⟨rfl, b9⟩
        replace X := X.below b9
        clear b9
        go_wp2_with fail
        go_ret
        exact ⟨rfl, X.bel⟩
      | false =>
        have e1 : ¬ p = j := fun e => by have := E1.out.1 e; cases this
        have e2 : ¬ q = i := fun e => by have := E2.out.1 e; cases this
        have g1 : ((p : Int) == (j : Int)) = false := by simp; omega
        have g2 : ((q : Int) == (i : Int)) = false := by simp; omega
        clear e1 e2
        go_wp2_with fail
        refine (Af.out _ X.B.P).mono ?_
        rintro e w9 ⟨rfl, b9⟩
        replace X := X.below b9
        clear b9
        go_wp2_with fail
        refine (Af.out _ X.B.P).mono ?_
        rintro e w9 ⟨rfl, b9⟩
        replace X := X.below b9
        clear b9
        go_wp2_with fail
        refine (A3.out _ X.B.P).mono ?_
        rintro e w9 ⟨rfl, b9⟩
        replace X := X.below b9
        clear b9
        go_wp2_with fail
        go_ret
        exact ⟨rfl, X.bel⟩
end Go.Proofs.Ytcicejmahlobhaa
