/- The law LatticeMade, walked. -/
import Derived.Test.YtcicejmahlobhaaNf
namespace Go.Proofs.Ytcicejmahlobhaa
open Go.RowKit Go.Maps
set_option linter.unusedVariables false

theorem fewB_small {ns : List ByteArray} {ps : List (Int × Int)} (h : fewB ns ps = true) : ns.length ≤ 1000 ∧ ps.length ≤ 1000000 ∧ ∀ k, k < ns.length → (nmAt ns k).size ≤ 20 := by
  unfold fewB at h
  simp only [Bool.and_eq_true, decide_eq_true_eq, List.all_eq_true, List.mem_range] at h
  exact ⟨by omega, by omega, h.2⟩

set_option maxRecDepth 100000 in
set_option maxHeartbeats 8000000 in
theorem lmade_walk (A : Option Addr) (c : Nat) (ns : List ByteArray) (B : Option Addr) (cb : Nat) (ps : List (Int × Int)) (w : World) (h : Strs w w.heap.size A ns) (hp : Prs w w.heap.size B ps) :
    Calls Try.prog 3 #[.slice A ns.length c, .slice B ps.length cb] w fun e w' => e = .returned (.bool true) ∧ Below w.heap.size w w' := by
  go_enter Try.func3, Try.ntmps3
  go_wp2_with fail
  refine (known_ok _).mono ?_
  rintro e w1 ⟨rfl, b1⟩
  go_wp2_with fail
  refine (few_any A c ns B cb ps _ (h.at b1)).mono ?_
  rintro e w2 ⟨rfl, rfl⟩
  cases hf : fewB ns ps with
  | false =>
    clear hf
    go_wp2_with fail
    go_ret
    exact ⟨rfl, b1⟩
  | true =>
    obtain ⟨hs1, hs2, hs3⟩ := fewB_small hf
    have HS3 := Lib.hid hs3
    clear hf hs3
    go_wp2_with fail
    refine (new_any A c ns B cb ps _ (h.at b1) (hp.at b1) hs1 hs2).mono ?_
    rintro e w2 ⟨b2, ⟨hne, rfl⟩ | ⟨hz, lb, rfl, hP⟩⟩
    · have HNE := Lib.hid hne
      replace b1 := bTrans b1 b2
      have g1 : (Kl.newC ns ps == 0) = false := by simpa using hne
      have g2 : decide (Kl.newC ns ps = 0) = false := by simpa using hne
      clear b2 hne
      go_wp2_with fail
      refine (rnew_any A c ns B cb ps _ (h.at b1) (hp.at b1) hs1 hs2).mono ?_
      rintro e w3 ⟨b3, ⟨_, rfl⟩ | ⟨hz, _⟩⟩
      · replace b1 := bTrans b1 b3
        clear b3
        unfold rlV
        have g3 : (Kl.newC ns ps != Kl.newC ns ps) = false := by simp
        have g4 : (Kl.newC ns ps != 0) = true := by simpa using HNE.out
        go_wp2_with fail
        go_ret
        exact ⟨rfl, bTrans b1 (al1 _ _)⟩
      · exact absurd hz HNE.out
    · have HZ := Lib.hid hz
      have HN := Lib.hid (Kl.newC_lat hz).2.2.2.1
      clear hz
      replace b1 := bTrans b1 b2
      clear b2
      go_wp2_with fail
      refine (rnew_any A c ns B cb ps _ (h.at b1) (hp.at b1) hs1 hs2).mono ?_
      rintro e w3 ⟨b3, ⟨hne, _⟩ | ⟨_, An, cn, Al, cl, rfl, hS, hE⟩⟩
      · exact absurd HZ.out hne
      have X := LawV.new_ (cn := cn) (cl := cl) (bTrans b1 b3) ⟨hP.below b3, hS, hE⟩ 32
      clear b1 b3 hP hS hE
      have r0 := X.R.c0
      unfold rlV
      go_wp2_with fail
      clear r0
      revert X
      generalize w3.alloc (.cells #[.slice An ns.length cn, .slice Al ns.length cl] 32) = w4
      generalize w3.heap.size = b8
      generalize Kl.le ns.length ps = L at *
      intro X
      have r0 := X.R.c0
      go_loop [48] (fun kv => ∃ k : Nat, k ≤ ns.length ∧ kv = .int .i64 (k : Int)) (fun kv => ns.length - (intOf kv).toNat)
      case atStart => exact ⟨0, Nat.zero_le _, rfl⟩
      case round =>
        obtain ⟨k, hk, rfl⟩ := hrel
        by_cases hkl : k < ns.length
        · have hkI : (k : Int) < (ns.length : Int) := by omega
          obtain ⟨b, off, s, rfl, hbb, hc, hs⟩ := X.B.S.at_ hkl
          have hN : ∀ W, PLat W lb ns L → Calls Try.prog 15 #[.pointer (some ⟨lb, 0, none⟩), .int .i64 (k : Int)] W fun e w' => e = .returned (.tuple #[.string s, .int .i64 0]) ∧ W = w' := fun W hW => by
            rw [hs.out]; exact name_in k hkl W hW
          have hF : ∀ W, PLat W lb ns L → Calls Try.prog 16 #[.pointer (some ⟨lb, 0, none⟩), .string s] W fun e w' => e = .returned (.tuple #[.int .i64 (k : Int), .bool true]) ∧ W = w' := fun W hW => by
            rw [hs.out]; exact find_in k hkl HN.out (HS3.out k hkl) W hW
          have HNm := Lib.hid hN
          have HFd := Lib.hid hF
          have q1 : (s.toList == s.toList) = true := beq_self_eq_true _
          clear hN hF
          go_wp2_with fail
          refine (HNm.out _ X.B.P).mono ?_
          rintro e w5 ⟨rfl, rfl⟩
          go_wp2_with fail
          refine (HFd.out _ X.B.P).mono ?_
          rintro e w5 ⟨rfl, rfl⟩
          go_wp2_with fail
          go_round
          case rel => exact ⟨k + 1, by omega, by go_num⟩
          case measure => simp [intOf]; omega
        · obtain rfl : k = ns.length := by omega
          go_wp2_with fail
          obtain ⟨An', cn', M, Aa, ca, Ab, cb', hQ, _, _⟩ := X.B.P
          have hbel := X.bel
          go_quiet ((go_at_call 17; exact quiet_of_eq (size_ok _ (hQ.below (bDrewN w4 _)))))
          go_wp2_with fail
          go_ret
          exact ⟨rfl, hbel.trans ((bDrewN w4 _).mono hbel.size)⟩
end Go.Proofs.Ytcicejmahlobhaa
