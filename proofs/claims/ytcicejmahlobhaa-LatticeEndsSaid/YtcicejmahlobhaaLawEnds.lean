/- The law LatticeEnds, walked. -/
import Derived.Test.YtcicejmahlobhaaNg
namespace Go.Proofs.Ytcicejmahlobhaa
open Go.RowKit Go.Maps
set_option linter.unusedVariables false

set_option maxRecDepth 100000 in
set_option maxHeartbeats 16000000 in
theorem ends_walk (A : Option Addr) (c : Nat) (ns : List ByteArray) (B : Option Addr) (cb : Nat) (ps : List (Int × Int)) (D : Option Addr) (cd : Nat) (zs : List Int) (w : World) (h : Strs w w.heap.size A ns) (hp : Prs w w.heap.size B ps) (hzs : Ints w w.heap.size D zs) :
    Calls Try.prog 7 #[.slice A ns.length c, .slice B ps.length cb, .slice D zs.length cd] w fun e w' => e = .returned (.bool true) ∧ Below w.heap.size w w' := by
  go_enter Try.func7, Try.ntmps7
  go_wp2_with fail
  refine (known_ok _).mono ?_
  rintro e w1 ⟨rfl, b1⟩
  go_wp2_with fail
  refine (made_any A c ns B cb ps _ (h.at b1) (hp.at b1)).mono ?_
  rintro e w2 ⟨b2, rfl | ⟨_, hz, lb, An, cn, Al, cl, rfl, hB⟩⟩
  · replace b1 := bTrans b1 b2
    clear b2
    unfold rlV
    go_wp2_with fail
    go_ret
    exact ⟨rfl, bTrans b1 (al1 _ _)⟩
  replace b1 := bTrans b1 b2
  have X := LawV.new_ b1 hB 32
  obtain ⟨hn12, hn0, hL, _, _⟩ := Kl.newC_lat hz
  clear hB b1 b2 hz
  unfold rlV
  by_cases hlen : 20 < zs.length
  · have hl1 : (20 : Int) < (zs.length : Int) := by omega
    go_wp2_with fail
    go_ret
    exact ⟨rfl, X.bel⟩
  have hl1 : ¬ (20 : Int) < (zs.length : Int) := by omega
  have hlz : zs.length ≤ 20 := by omega
  clear hlen
  have r0 := X.R.c0
  go_wp2_with fail
  clear r0 hl1
  revert X
  generalize w2.alloc (.cells #[.slice An ns.length cn, .slice Al ns.length cl] 32) = w3
  generalize w2.heap.size = b8
  generalize Kl.le ns.length ps = L at *
  intro X
  have HLat := Lib.hid hL
  obtain ⟨hb1, hb2⟩ := hL.bot_is hn0
  obtain ⟨ht1, ht2⟩ := hL.flip_.bot_is hn0
  have HB2 := Lib.hid hb2
  have HT2 := Lib.hid ht2
  clear hb2 ht2 hL
  obtain ⟨An', cn', M, Aa, ca, Ab, cb', hP, _, _⟩ := X.B.P
  have hbo : ∀ W, PL W lb ns.length An' cn' (.map (some M)) Aa ca Ab cb' L → Calls Try.prog 28 #[.pointer (some ⟨lb, 0, none⟩)] W fun e w' => e = .returned (.int .i64 ((Kl.bot L ns.length : Nat) : Int)) ∧ W = w' := fun W hW => bottom_ok hn12 W hW
  have hto : ∀ W, PL W lb ns.length An' cn' (.map (some M)) Aa ca Ab cb' L → Calls Try.prog 27 #[.pointer (some ⟨lb, 0, none⟩)] W fun e w' => e = .returned (.int .i64 ((Kl.bot (Kl.flip L) ns.length : Nat) : Int)) ∧ W = w' := fun W hW => top_ok hn12 W hW
  have hrb : ∀ W, LeM W W.heap.size Al ns.length L → Calls Try.prog 30 #[rlV An ns.length cn Al cl] W fun e w' => e = .returned (.int .i64 ((Kl.bot L ns.length : Nat) : Int)) ∧ Below W.heap.size W w' := fun W hW => rbottom_ok An ns.length cn Al cl hn12 hn0 L HLat.out W hW
  have hj0 : Kl.jaK L ns.length zs 0 = some (Kl.bot L ns.length) := rfl
  have HBO := Lib.hid hbo
  have HTO := Lib.hid hto
  have HRB := Lib.hid hrb
  have HJ0 := Lib.hid hj0
  clear hbo hto hrb hj0
  revert hb1 ht1 HB2 HT2 HBO HTO HRB HJ0
  generalize Kl.bot L ns.length = m
  generalize Kl.bot (Kl.flip L) ns.length = t
  intro hb1 ht1 HB2 HT2 HBO HTO HRB HJ0
  go_loop [37] (fun kv => ∃ k : Nat, k ≤ ns.length ∧ kv = .int .i64 (k : Int)) (fun kv => ns.length - (intOf kv).toNat)
  case atStart => exact ⟨0, Nat.zero_le _, rfl⟩
  case round =>
    obtain ⟨k, hk, rfl⟩ := hrel
    by_cases hkl : k < ns.length
    · have hkI : (k : Int) < (ns.length : Int) := by omega
      have q1 := Lib.hid (show beB L ns.length (k : Int) (t : Int) = true by
        unfold beB
        rw [show lvB (k : Int) ns.length = true by simp [lvB]; omega, show lvB (t : Int) ns.length = true by simp [lvB]; omega, Int.toNat_natCast, Int.toNat_natCast]
        exact HT2.out k hkl)
      have q2 := Lib.hid (show beB L ns.length (m : Int) (k : Int) = true by
        unfold beB
        rw [show lvB (k : Int) ns.length = true by simp [lvB]; omega, show lvB (m : Int) ns.length = true by simp [lvB]; omega, Int.toNat_natCast, Int.toNat_natCast]
        exact HB2.out k hkl)
      go_wp2_with fail
      refine (HTO.out _ hP).mono ?_
      rintro e w4 ⟨rfl, rfl⟩
      go_wp2_with fail
      refine (below_ok hn12 (k : Int) (t : Int) _ hP).mono ?_
      rintro e w4 ⟨rfl, rfl⟩
      rw [q1.out]
      go_wp2_with fail
      refine (HBO.out _ hP).mono ?_
      rintro e w4 ⟨rfl, rfl⟩
      go_wp2_with fail
      refine (below_ok hn12 (m : Int) (k : Int) _ hP).mono ?_
      rintro e w4 ⟨rfl, rfl⟩
      rw [q2.out]
      go_wp2_with fail
      go_round
      case rel => exact ⟨k + 1, by omega, by go_num⟩
      case measure => simp [intOf]; omega
    · obtain rfl : k = ns.length := by omega
      go_wp2_with fail
      refine (joinAll_ok hn12 hn0 D cd zs _ hP ((hzs.below X.bel).more X.bel.size) (by omega)).mono ?_
      rintro e w4 ⟨rfl, q, rfl⟩
      have X4 := X.below (bDrewN w3 q)
      clear X hP HBO HTO
      revert X4
      generalize w3.drewN q = w4
      intro X4
      obtain ⟨o, ho⟩ : ∃ o, Hid (Kl.jaK L ns.length zs zs.length = o) := ⟨_, Lib.hid rfl⟩
      rw [ho.out]
      have r0 := X4.R.c0
      have r1 := X4.R.c1
      go_wp2_with fail
      refine (HRB.out _ X4.B.E).mono ?_
      rintro e w5 ⟨rfl, b5⟩
      have X5 := X4.below b5
      clear X4 b5 r0 r1
      go_wp2_with fail
      go_loopw [13, 65] (fun jv kv wr => ∃ k j : Nat, k ≤ zs.length ∧ kv = .int .i64 (k : Int) ∧ jv = .int .i64 (j : Int) ∧ Hid (Kl.jaK L ns.length zs k = some j ∧ j < ns.length) ∧ LawV w wr b8 lb An cn Al cl ns L) (fun _ kv _ => zs.length - (intOf kv).toNat)
      case atStart => exact ⟨0, m, Nat.zero_le _, rfl, rfl, Lib.hid ⟨HJ0.out, hb1⟩, X5⟩
      case round =>
        clear X5
        obtain ⟨k, j, hk, rfl, rfl, hj, X⟩ := hrel
        by_cases hlt : k < zs.length
        · obtain ⟨b, off, z, rfl, hbb, hcz, hz1⟩ := ((hzs.below X.bel).more X.bel.size).at_ hlt
          have r0 := X.R.c0
          have r1 := X.R.c1
          go_wp2_with fail
          refine (in_any An ns.length cn Al cl z _).mono ?_
          rintro e w6 ⟨rfl, b6⟩
          have X6 := X.below b6
          clear X b6 r0 r1 hcz
          cases hlv : lvB z ns.length with
          | false =>
            have hR := Kl.jaK_none (m := zs.length) (Nat.succ_le_of_lt hlt) (Kl.jaK_bad hj.out.1 (by rw [← hz1.out.1]; exact hlv))
            rw [ho.out] at hR
            subst hR
            have n1 : ((Kl.num none : Nat) : Int) = 0 := rfl
            have n2 : Kl.jaC none = 3 := rfl
            rw [n1, n2]
            clear n1 n2 hlv
            go_wp2_with fail
            go_ret
            exact ⟨rfl, X6.bel⟩
          | true =>
            have hR := Lib.hid (Kl.jaK_step hj.out.1 (by rw [← hz1.out.1]; exact hlv))
            obtain ⟨i, rfl, hi⟩ := lvB_nat' hlv
            rw [← hz1.out.1, Int.toNat_natCast] at hR
            obtain ⟨j2, hj2, hj3, _⟩ := HLat.out.jn_get hj.out.2 hi
            have hjr : ∀ W, LeM W W.heap.size Al ns.length L → Calls Try.prog 23 #[rlV An ns.length cn Al cl, .int .i64 (j : Int), .int .i64 (i : Int)] W fun e w' => e = .returned (.int .i64 (j2 : Int)) ∧ Below W.heap.size W w' := fun W hW => by
              have := rjoin_ok An ns.length cn Al cl hn12 L HLat.out.pre j i hj.out.2 hi W hW
              rw [hj2] at this
              exact this
            have hR2 := Lib.hid (show Kl.jaK L ns.length zs (k + 1) = some j2 by rw [hR.out, hj2]; rfl)
            have HJR := Lib.hid hjr
            clear hjr hj2 hlv hR
            have r0 := X6.R.c0
            have r1 := X6.R.c1
            go_wp2_with fail
            refine (HJR.out _ X6.B.E).mono ?_
            rintro e w7 ⟨rfl, b7⟩
            have X7 := X6.below b7
            clear X6 b7 r0 r1
            go_wp2_with fail
            go_roundw
            case rel => exact ⟨k + 1, j2, by omega, by go_num, rfl, Lib.hid ⟨hR2.out, hj3⟩, X7⟩
            case measure => simp [intOf]; omega
        · obtain rfl : k = zs.length := by omega
          have hR := hj.out.1
          rw [ho.out] at hR
          subst hR
          have n1 : ((Kl.num (some j) : Nat) : Int) = (j : Int) := rfl
          have n2 : Kl.jaC (some j) = 0 := rfl
          rw [n1, n2]
          clear n1 n2
          go_wp2_with fail
          go_ret
          exact ⟨rfl, X.bel⟩
end Go.Proofs.Ytcicejmahlobhaa
