/- The law LatticeCovers, walked. -/
import Derived.Test.YtcckocaaoklibaaNm
import Derived.Test.YtcckocaaoklibaaNf
import Derived.Deep.RegionWith
import Derived.Laws.StructEq
import Derived.Deep.MidRow
import Derived.ChangeKeysEq
namespace Go.Proofs.Ytcckocaaoklibaa
open Go.RowKit Go.Maps
set_option linter.unusedVariables false

theorem Kl.exH {P : Nat → Nat → Prop} {n : Nat} (h0 : ∃ a, a < n ∧ P 0 a) : ∀ k, (∀ a m, a < n → P m a → m < k) → ∃ H, Kl.IsH P n H := by
  intro k
  induction k with
  | zero => intro h; obtain ⟨a, ha, hp⟩ := h0; have := h a 0 ha hp; omega
  | succ k ih =>
    intro h
    by_cases e : ∃ a, a < n ∧ P k a
    · exact ⟨k + 1, ⟨e, by omega, fun a m ha hp => h a m ha hp⟩⟩
    · refine ih fun a m ha hp => ?_
      have := h a m ha hp
      have : m ≠ k := fun q => e ⟨a, ha, q ▸ hp⟩
      omega

theorem infoInt : Try.prog.info? 3 = some (Try.prog.info? 3).get! := by kernel_rfl
theorem pair_eq (x y : Int) (W : World) : (Op.equalIn 10000 33 (.agg #[.int .i64 x, .int .i64 y]) (.agg #[.int .i64 x, .int .i64 y])).run Try.prog W = .ok true W := by
  rw [show (10000 : Nat) = 9998 + 1 + 1 from rfl, run_equalIn_array W (9998 + 1) _ _ Try.underlying33 infoInt]
  have hc : Try.prog.cellsOf 3 = 1 := by kernel_rfl
  rw [hc]
  have h0 := Try.underlying3
  simp [Op.eqItems, List.range_succ, part, go_sem, h0]

theorem load_pair (W : World) (b o : Nat) (x y : Int) (h0 : W.cell? ⟨b, o, none⟩ = some (.int .i64 x)) (h1 : W.cell? ⟨b, o + 1, none⟩ = some (.int .i64 y)) :
    (Instr.loadAt 33 (.pointer (some ⟨b, o, none⟩))).run Try.prog W = .ok (.agg #[.int .i64 x, .int .i64 y]) W :=
  run_loadAt_mid W b o 33 [.int .i64 x, .int .i64 y] _ (fun j v hv => by
    match j, hv with
    | 0, hv => injection hv with hv; subst hv; exact h0
    | 1, hv => injection hv with hv; subst hv; exact h1) Try.underlying33 rfl (by kernel_rfl)

/-- the law's world: the reference's lattice in its box, both lattices, and the row of the covers -/
structure LawC (w wx : World) (b8 lb : Nat) (An : Option Addr) (cn : Nat) (Al : Option Addr) (cl : Nat) (ns : List ByteArray) (L : Nat → Nat → Bool) (A : Option Addr) (ps : List (Int × Int)) : Prop where
  V : LawV w wx b8 lb An cn Al cl ns L
  P : Prs wx wx.heap.size A ps
theorem LawC.below {w wx wy : World} {b8 lb : Nat} {An : Option Addr} {cn : Nat} {Al : Option Addr} {cl : Nat} {ns : List ByteArray} {L : Nat → Nat → Bool} {A : Option Addr} {ps : List (Int × Int)} (h : LawC w wx b8 lb An cn Al cl ns L A ps) (hb : Below wx.heap.size wx wy) : LawC w wy b8 lb An cn Al cl ns L A ps := ⟨h.V.below hb, h.P.at hb⟩

/-- .. and the lattice that the covers make -/
structure LawD (w wx : World) (b8 lb : Nat) (An : Option Addr) (cn : Nat) (Al : Option Addr) (cl : Nat) (ns : List ByteArray) (L : Nat → Nat → Bool) (lb2 : Nat) (L2 : Nat → Nat → Bool) : Prop where
  V : LawV w wx b8 lb An cn Al cl ns L
  Q : PLat wx lb2 ns L2
theorem LawD.below {w wx wy : World} {b8 lb : Nat} {An : Option Addr} {cn : Nat} {Al : Option Addr} {cl : Nat} {ns : List ByteArray} {L : Nat → Nat → Bool} {lb2 : Nat} {L2 : Nat → Nat → Bool} (h : LawD w wx b8 lb An cn Al cl ns L lb2 L2) (hb : Below wx.heap.size wx wy) : LawD w wy b8 lb An cn Al cl ns L lb2 L2 := ⟨h.V.below hb, h.Q.below hb⟩
theorem LawD.name {w wx : World} {b8 lb : Nat} {An : Option Addr} {cn : Nat} {Al : Option Addr} {cl : Nat} {ns : List ByteArray} {L : Nat → Nat → Bool} {lb2 : Nat} {L2 : Nat → Nat → Bool} (h : LawD w wx b8 lb An cn Al cl ns L lb2 L2) : ∃ W : World, W = wx := ⟨_, rfl⟩
theorem al0 (w : World) : Below w.heap.size w w.drew := (Below.refl _ _).drew

set_option maxRecDepth 100000 in
set_option maxHeartbeats 16000000 in
theorem lcovers_walk (A : Option Addr) (c : Nat) (ns : List ByteArray) (B : Option Addr) (cb : Nat) (ps : List (Int × Int)) (w : World) (h : Strs w w.heap.size A ns) (hp : Prs w w.heap.size B ps) :
    Calls Try.prog 3 #[.slice A ns.length c, .slice B ps.length cb] w fun e w' => e = .returned (.bool true) ∧ Below w.heap.size w w' := by
  go_enter Try.func3, Try.ntmps3
  go_wp2_with fail
  refine (known_ok _).mono ?_
  rintro e w1 ⟨rfl, b1⟩
  go_wp2_with fail
  refine (made_any A c ns B cb ps _ (h.at b1) (hp.at b1)).mono ?_
  rintro e w2 ⟨b2, rfl | ⟨_, hz, lb, An, cn, Al, cl, rfl, hB⟩⟩
  · replace b1 := bTrans b1 b2
    clear b2
    unfold rlV
    go_wp2_with fail
    go_ret
    exact ⟨rfl, bTrans b1 (al1 _ _)⟩
  replace b1 := bTrans b1 b2
  have hS := h.at b1
  have X := LawV.new_ b1 hB 28
  have hS := hS.at (al1 w2 (.cells #[.slice An ns.length cn, .slice Al ns.length cl] 28))
  obtain ⟨hn12, hn0, hL, _, _⟩ := Kl.newC_lat hz
  have HNEW := Lib.hid (Kl.covers_new hz)
  clear hB b1 b2 h hp hz
  unfold rlV
  have r0 := X.R.c0
  go_wp2_with fail
  clear r0
  revert X hS
  generalize w2.alloc (.cells #[.slice An ns.length cn, .slice Al ns.length cl] 28) = w3
  generalize w2.heap.size = b8
  generalize Kl.le ns.length ps = L at *
  intro X hS
  have HL := Lib.hid hL
  have HN12 := Lib.hid hn12
  have HN0 := Lib.hid hn0
  clear hL hn0
  obtain ⟨An', cn', M, Aa, ca, Ab, cb', hP, _, _⟩ := X.B.P
  refine (covers_ok HL.out hn12 _ hP).mono ?_
  rintro e w4 ⟨A4, c4, rfl, hP4, b4⟩
  have X4 : LawC w w4 b8 lb An cn Al cl ns L A4 _ := ⟨X.below b4, hP4⟩
  have hS4 := hS.at b4
  clear X hP hP4 b4 hS
  have r0 := X4.V.R.c0
  have r1 := X4.V.R.c1
  go_wp2_with fail
  refine (rcovers_ok An ns.length cn Al cl hn12 L _ X4.V.B.E).mono ?_
  rintro e w5 ⟨A5, c5, rfl, hP5, b5⟩
  have X5 := X4.below b5
  have hS5 := hS4.at b5
  have hlen := Kl.cvTo_len L ns.length ns.length
  have hlen2 : ns.length * ns.length ≤ 12 * 12 := Nat.mul_le_mul hn12 hn12
  have hlen3 : (Kl.cvTo L ns.length ns.length).length ≤ 144 := by omega
  have hle := Lib.hid HL.out.covers_le
  clear X4 hS4 b5 r0 r1 hlen hlen2
  revert X5 hP5 hlen3 HNEW hle
  generalize Kl.cvTo L ns.length ns.length = qs
  intro HNEW hP5 X5 hlen3 hle
  go_wp2_with fail
  go_loopw [39] (fun kv wr => ∃ k q : Nat, k ≤ qs.length ∧ kv = .int .i64 (k : Int) ∧ wr = w5.drewN q) (fun kv _ => qs.length - (intOf kv).toNat)
  case atStart => exact ⟨0, 0, Nat.zero_le _, rfl, rfl⟩
  case round =>
    obtain ⟨k, q, hk, rfl, rfl⟩ := hrel
    by_cases hkl : k < qs.length
    · have hkI : (k : Int) < (qs.length : Int) := by omega
      obtain ⟨bk, off, x, y, rfl, hbb, hcx, hcy, hxy⟩ := X5.P.at_ hkl
      obtain ⟨bk2, off2, x2, y2, rfl, hbb2, hcx2, hcy2, hxy2⟩ := hP5.at_ hkl
      have e1 : x2 = x := by rw [hxy.out.1, hxy2.out.1]
      have e2 : y2 = y := by rw [hxy.out.2, hxy2.out.2]
      subst e1 e2
      clear hxy hxy2
      go_wp2_with fail
      have gt := Try.eqGuardType33
      have eqp : ∀ W, (Op.equalIn 10000 33 (.agg #[.int .i64 x2, .int .i64 y2]) (.agg #[.int .i64 x2, .int .i64 y2])).run Try.prog W = .ok true W := fun W => pair_eq x2 y2 W
      go_quiet (fail)
      go_wp2_with fail
      go_roundw
      case rel => exact ⟨k + 1, q + nq, by omega, by go_num, by first | rfl | exact World.drewN_drewN _ _ _⟩
      case measure => simp [intOf]; omega
    · obtain rfl : k = qs.length := by omega
      have bd := bDrewN w5 q
      have X6 := X5.below bd
      have hS6 := hS5.at bd
      clear X5 hS5 bd hP5
      revert X6 hS6
      generalize w5.drewN q = w6
      intro X6 hS6
      have hns : ns.length ≤ 1000 := by omega
      go_wp2_with fail
      refine (new_any A c ns A4 c4 qs _ hS6 X6.P hns (by omega)).mono ?_
      rintro e w7 ⟨b7, ⟨hne, rfl⟩ | ⟨_, lb2, rfl, hP2⟩⟩
      · exact absurd HNEW.out hne
      have X7 : LawD w w7 b8 lb An cn Al cl ns L lb2 (Kl.le ns.length qs) := ⟨X6.V.below b7, hP2⟩
      clear X6 hS6 b7 hP2 HNEW hns
      obtain ⟨H0, hH0⟩ := Kl.exH (P := Kl.dn L ns.length) (n := ns.length) ⟨0, HN0.out, trivial⟩ ns.length (fun a m ha d => HL.out.dn_bound ha d)
      have hei : ∀ W, PLat W lb ns L → Calls Try.prog 9 #[.pointer (some ⟨lb, 0, none⟩)] W fun e w' => e = .returned (.int .i64 (H0 : Int)) ∧ Below W.heap.size W w' := fun W hW => by
        obtain ⟨An', cn', M, Aa, ca, Ab, cb', hP, _, _⟩ := hW
        refine (height_ok HL.out HN12.out HN0.out _ hP).mono ?_
        rintro e w' ⟨H1, rfl, h1, hb⟩
        exact ⟨by rw [h1.uniq hH0 (fun m => Iff.rfl)], hb⟩
      have hre : ∀ W, LeM W W.heap.size Al ns.length L → Calls Try.prog 10 #[rlV An ns.length cn Al cl] W fun e w' => e = .returned (.int .i64 (H0 : Int)) ∧ Below W.heap.size W w' := fun W hW => by
        refine (rheight_ok An ns.length cn Al cl HN12.out HN0.out L HL.out _ hW).mono ?_
        rintro e w' ⟨H1, rfl, h1, hb⟩
        exact ⟨by rw [h1.uniq hH0 (fun m => Kl.up_dn m)], hb⟩
      have HEI := Lib.hid hei
      have HRE := Lib.hid hre
      unfold rlV at HRE
      clear hei hre hH0
      have hle0 : ((0 : Int) != 0) = false := rfl
      go_wp2_with fail
      clear hle0
      go_cut [70] (fun s wx => s = .bool false ∧ LawD w wx b8 lb An cn Al cl ns L lb2 (Kl.le ns.length qs))
      case first =>
        have X7d := X7.below (al0 w7)
        have r0 := X7.V.R.c0
        have r1 := X7.V.R.c1
        have hH : ((H0 : Int) != (H0 : Int)) = false := by simp
        go_region_with (first
          | (go_at_call 9; refine (HEI.out _ X8.V.B.P).mono ?_; rintro e w9 ⟨rfl, b9⟩; have X9 := X8.below b9)
          | (go_at_call 10; refine (HRE.out _ X8.V.B.E).mono ?_; rintro e w9 ⟨rfl, b9⟩; have X9 := X8.below b9)
          | (go_at_call 9; refine (HEI.out _ X7d.V.B.P).mono ?_; rintro e w8 ⟨rfl, b8'⟩; have X8 := X7d.below b8'; have s0 := X8.V.R.c0; have s1 := X8.V.R.c1)
          | (go_at_call 10; refine (HRE.out _ X7d.V.B.E).mono ?_; rintro e w8 ⟨rfl, b8'⟩; have X8 := X7d.below b8'; have s0 := X8.V.R.c0; have s1 := X8.V.R.c1))
        all_goals
          go_wp2_with fail
          go_meet
          exact ⟨rfl, X9⟩
      case rest =>
        obtain ⟨rfl, X9⟩ := hcut
        obtain ⟨wx, rfl⟩ := X9.name
        clear X7 HEI HRE
        have r0 := X9.V.R.c0
        have HLE : Hid (∀ i j, i < ns.length → j < ns.length → beB (Kl.le ns.length qs) ns.length (i : Int) (j : Int) = L i j) := Lib.hid fun i j hi hj => by
          unfold beB
          rw [show lvB (i : Int) ns.length = true by simp [lvB]; omega, show lvB (j : Int) ns.length = true by simp [lvB]; omega, Int.toNat_natCast, Int.toNat_natCast]
          exact hle.out i j hi hj
        clear hle
        revert X9 HLE
        generalize Kl.le ns.length qs = L2
        intro X9 HLE
        go_wp2_with fail
        clear r0
        go_loopw [74] (fun av wr => ∃ a : Nat, a ≤ ns.length ∧ av = .int .i64 (a : Int) ∧ LawD w wr b8 lb An cn Al cl ns L lb2 L2) (fun av _ => ns.length - (intOf av).toNat)
        case atStart => exact ⟨0, Nat.zero_le _, rfl, X9⟩
        case round =>
          clear X9
          obtain ⟨a, ha, rfl, X9⟩ := hrel
          by_cases hal : a < ns.length
          · have haI : (a : Int) < (ns.length : Int) := by omega
            have r0 := X9.V.R.c0
            go_wp2_with fail
            clear r0
            go_loopw [80] (fun bv wr => ∃ b : Nat, b ≤ ns.length ∧ bv = .int .i64 (b : Int) ∧ LawD w wr b8 lb An cn Al cl ns L lb2 L2) (fun bv _ => ns.length - (intOf bv).toNat)
            case atStart => exact ⟨0, Nat.zero_le _, rfl, X9⟩
            case round =>
              clear X9
              obtain ⟨b, hb, rfl, X9⟩ := hrel
              by_cases hbl : b < ns.length
              · have hbI : (b : Int) < (ns.length : Int) := by omega
                have r1 := X9.V.R.c1
                obtain ⟨bk, off, g, rfl, _, hrow, _, hc⟩ := X9.V.B.E.at_ hal
                have hcell := hc.out b hbl
                have hcall : ∀ m, Calls Try.prog 11 #[.pointer (some ⟨lb2, 0, none⟩), .int .i64 (a : Int), .int .i64 (b : Int)] (wr.drewN m) fun e w' => e = .returned (.bool (L a b)) ∧ wr.drewN m = w' := fun m => by
                  obtain ⟨An', cn', M, Aa, ca, Ab, cb', hP, _, _⟩ := X9.Q
                  have := below_ok HN12.out (a : Int) (b : Int) (wr.drewN m) (hP.below (bDrewN wr m))
                  rw [HLE.out a b hal hbl] at this
                  exact this
                have HC := Lib.hid hcall
                clear hcall hc
                revert hcell HC
                generalize L a b = z
                intro hcell HC
                go_wp2_with fail
                cases z with
                | true =>
                  go_quiet ((go_at_call 11; exact quiet_of_eq (HC.out _)))
                  go_wp2_with fail
                  go_roundw
                  case rel => exact ⟨b + 1, by omega, by go_num, X9.below (bDrewN wr _)⟩
                  case measure => simp [intOf]; omega
                | false =>
                  go_quiet ((go_at_call 11; exact quiet_of_eq (HC.out _)))
                  go_wp2_with fail
                  go_roundw
                  case rel => exact ⟨b + 1, by omega, by go_num, X9.below (bDrewN wr _)⟩
                  case measure => simp [intOf]; omega
              · obtain rfl : b = ns.length := by omega
                go_wp2_with fail
                go_roundw
                case rel => exact ⟨a + 1, by omega, by go_num, X9⟩
                case measure => simp [intOf]; omega
          · obtain rfl : a = ns.length := by omega
            have hbel := X9.V.bel
            go_wp2_with fail
            go_ret
            exact ⟨rfl, hbel⟩
end Go.Proofs.Ytcckocaaoklibaa
