/- The law LatticeNames, walked. -/
import Derived.Test.YtcicejmahlobhaaNf
namespace Go.Proofs.Ytcicejmahlobhaa
open Go.RowKit Go.Maps
set_option linter.unusedVariables false

set_option maxRecDepth 100000 in
set_option maxHeartbeats 8000000 in
theorem names_walk (A : Option Addr) (c : Nat) (ns : List ByteArray) (B : Option Addr) (cb : Nat) (ps : List (Int × Int)) (s : ByteArray) (w : World) (h : Strs w w.heap.size A ns) (hp : Prs w w.heap.size B ps) :
    Calls Try.prog 9 #[.slice A ns.length c, .slice B ps.length cb, .string s] w fun e w' => e = .returned (.bool true) ∧ Below w.heap.size w w' := by
  go_enter Try.func9, Try.ntmps9
  go_wp2_with fail
  refine (known_ok _).mono ?_
  rintro e w1 ⟨rfl, b1⟩
  go_wp2_with fail
  refine (made_any A c ns B cb ps _ (h.at b1) (hp.at b1)).mono ?_
  rintro e w2 ⟨b2, rfl | ⟨_, hz, lb, An, cn, Al, cl, rfl, hB⟩⟩
  · replace b1 := bTrans b1 b2
    clear b2
    unfold rlV
    go_wp2_with fail
    go_ret
    exact ⟨rfl, bTrans b1 (al1 _ _)⟩
  replace b1 := bTrans b1 b2
  have X := LawV.new_ b1 hB 32
  obtain ⟨hn12, hn0, _, hnm, _⟩ := Kl.newC_lat hz
  clear hB b1 b2 hz
  unfold rlV
  by_cases hlen : 20 < s.size
  · have hl1 : (20 : Int) < (s.size : Int) := by omega
    go_wp2_with fail
    go_ret
    exact ⟨rfl, X.bel⟩
  have hl1 : ¬ (20 : Int) < (s.size : Int) := by omega
  have HL := Lib.hid (show s.size ≤ 20 by omega)
  have HN := Lib.hid hnm
  clear hlen hnm
  go_wp2_with fail
  clear hl1
  revert X
  generalize w2.alloc (.cells #[.slice An ns.length cn, .slice Al ns.length cl] 32) = w3
  generalize w2.heap.size = b8
  generalize Kl.le ns.length ps = L at *
  intro X
  by_cases hex : ∃ j, j < ns.length ∧ nmAt ns j = s
  · obtain ⟨j, hj, hjs⟩ := hex
    have HJ := Lib.hid hjs
    subst hjs
    refine (find_in j hj HN.out HL.out _ X.B.P).mono ?_
    rintro e w4 ⟨rfl, rfl⟩
    have r0 := X.R.c0
    go_wp2_with fail
    obtain ⟨sx, hsx⟩ : ∃ sx, Hid (sx = nmAt ns j) := ⟨_, Lib.hid rfl⟩
    rw [← hsx.out]
    go_loop [45] (fun kv => ∃ k : Nat, k ≤ j ∧ kv = .int .i64 (k : Int)) (fun kv => j - (intOf kv).toNat)
    case atStart => exact ⟨0, Nat.zero_le _, rfl⟩
    case round =>
      obtain ⟨k, hk, rfl⟩ := hrel
      have hkl : k < ns.length := by omega
      have hkI : (k : Int) < (ns.length : Int) := by omega
      obtain ⟨b, off, s2, rfl, hbb, hc, hs⟩ := X.B.S.at_ hkl
      by_cases e : k = j
      · subst e
        have hss : s2 = sx := by rw [hs.out, hsx.out]
        subst hss
        have q1 : (s2.toList == s2.toList) = true := beq_self_eq_true _
        go_wp2_with fail
        go_ret
        exact ⟨rfl, X.bel⟩
      · have hne : s2 ≠ sx := fun q => e (nm_inj HN.out hkl hj (by rw [← hs.out, ← hsx.out]; exact q))
        have q0 := list_ne hne
        have q1 : (s2.toList == sx.toList) = false := by simpa using q0
        have q2 : decide (s2.toList = sx.toList) = false := by simpa using q0
        have hkj : k + 1 ≤ j := by omega
        clear hne q0 e
        go_wp2_with fail
        go_round
        case rel => exact ⟨k + 1, hkj, by go_num⟩
        case measure => simp [intOf]; omega
  · have hno : ∀ j, j < ns.length → nmAt ns j ≠ s := fun j hj e => hex ⟨j, hj, e⟩
    have HO := Lib.hid hno
    clear hex hno
    refine (find_out s HO.out HL.out _ X.B.P).mono ?_
    rintro e w4 ⟨rfl, rfl⟩
    have r0 := X.R.c0
    go_wp2_with fail
    go_loop [45] (fun kv => ∃ k : Nat, k ≤ ns.length ∧ kv = .int .i64 (k : Int)) (fun kv => ns.length - (intOf kv).toNat)
    case atStart => exact ⟨0, Nat.zero_le _, rfl⟩
    case round =>
      obtain ⟨k, hk, rfl⟩ := hrel
      by_cases hkl : k < ns.length
      · have hkI : (k : Int) < (ns.length : Int) := by omega
        obtain ⟨b, off, s2, rfl, hbb, hc, hs⟩ := X.B.S.at_ hkl
        have hne : s2 ≠ s := fun q => HO.out k hkl (by rw [← hs.out]; exact q)
        have q0 := list_ne hne
        have q1 : (s2.toList == s.toList) = false := by simpa using q0
        have q2 : decide (s2.toList = s.toList) = false := by simpa using q0
        clear hne q0
        go_wp2_with fail
        go_round
        case rel => exact ⟨k + 1, by omega, by go_num⟩
        case measure => simp [intOf]; omega
      · obtain rfl : k = ns.length := by omega
        have hl1 : lvB (ns.length : Int) ns.length = false := by simp [lvB]
        have hl2 : lvB (-1) ns.length = false := by simp [lvB]
        have HL1 := Lib.hid hl1
        have HL2 := Lib.hid hl2
        clear hl1 hl2
        go_wp2_with fail
        refine (name_out _ HL1.out _ X.B.P).mono ?_
        rintro e w5 ⟨rfl, rfl⟩
        go_wp2_with fail
        refine (name_out _ HL2.out _ X.B.P).mono ?_
        rintro e w5 ⟨rfl, rfl⟩
        go_wp2_with fail
        go_ret
        exact ⟨rfl, X.bel⟩
end Go.Proofs.Ytcicejmahlobhaa
