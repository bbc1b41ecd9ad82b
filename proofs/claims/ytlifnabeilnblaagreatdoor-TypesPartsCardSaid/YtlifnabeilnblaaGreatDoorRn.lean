/- Walks: number of the reference of types. -/
import Derived.Test.YtlifnabeilnblaaGreatDoorCe
import Derived.Test.YtlifnabeilnblaaGreatDoorSl
import Derived.Test.YtlifnabeilnblaaGreatDoorVa
import Derived.Deep.AppendLies
import Derived.Test.YtlifnabeilnblaaGreatDoorRi
import Derived.Test.YtlifnabeilnblaaGreatDoorKl
namespace Go.Proofs.YtlifnabeilnblaaGreatDoor
open Go.RowKit Go.Sort
set_option linter.unusedVariables false

theorem quiet_of_drew {P : Program} {f : FuncId} {args : Array Value} {w : World} {n : Nat} {v : Value}
    (h : Calls P f args (w.drewN n) fun e w' => e = .returned v ∧ ∃ q, w' = (w.drewN n).drewN q) : Calls P f args (w.drewN n) fun e w'' => e = .returned v ∧ ∃ m, w'' = w.drewN m :=
  h.mono fun _ _ ⟨he, q, hm⟩ => ⟨he, n + q, by rw [hm, World.drewN_drewN]⟩
theorem num_piece : ∀ n : Fin 10, (⟨#[48, 49, 50, 51, 52, 53, 54, 55, 56, 57]⟩ : ByteArray).extract n.1 (n.1 + 1) = num n.1 := by decide +kernel
theorem num_two : ∀ n : Fin 100, ¬ n.1 < 10 → num (n.1 / 10) ++ num (n.1 % 10) = num n.1 := by decide +kernel
theorem num_len : ∀ n : Fin 100, (num n.1).size ≤ 2 := by decide +kernel
set_option maxRecDepth 100000 in
set_option maxHeartbeats 1000000 in
theorem rnum_step (n : Nat) (hn : n < 100) (HR : 10 ≤ n → ∀ W : World, Calls Tryz.prog 45 #[.int .i64 ((n / 10 : Nat) : Int)] W fun e w' => e = .returned (.string (num (n / 10))) ∧ ∃ q, w' = W.drewN q) (w : World) :
    Calls Tryz.prog 45 #[.int .i64 (n : Int)] w fun e w' => e = .returned (.string (num n)) ∧ ∃ q, w' = w.drewN q := by
  by_cases h : n < 10
  · have hI : (n : Int) < 10 := by omega
    have hp := num_piece ⟨n, h⟩
    dsimp only at hp
    clear HR
    obtain ⟨t, ht⟩ : ∃ t, num n = t := ⟨_, rfl⟩
    rw [ht] at hp ⊢
    clear ht
    go_enter Tryz.func45, Tryz.ntmps45
    go_wp2_with fail
    go_ret
    exact ⟨rfl, 0, rfl⟩
  · have hI : ¬ (n : Int) < 10 := by omega
    have HI := Lib.hid (HR (by omega))
    have hd := num_two ⟨n, hn⟩ h
    have hp := num_piece ⟨n % 10, by omega⟩
    have hl1 := num_len ⟨n / 10, by omega⟩
    have hl2 := num_len ⟨n % 10, by omega⟩
    dsimp only at hp hd hl1 hl2
    have hq1 : (n : Int).tdiv 10 = ((n / 10 : Nat) : Int) := (Int.ofNat_tdiv n 10).symm
    have hq2 : (n : Int).tmod 10 = ((n % 10 : Nat) : Int) := (Int.ofNat_tmod n 10).symm
    have hm : n % 10 < 10 := by omega
    have ha : n / 10 ≤ 4096 := by omega
    clear HR h
    revert HI hd hq1 hq2 hp hm ha hl1 hl2
    generalize num (n / 10) = s1
    generalize num (n % 10) = s2
    generalize num n = s3
    generalize n / 10 = a
    generalize n % 10 = b
    intro HI hd hp hl1 hl2 hq1 hq2 hm ha
    have HD := Lib.hid hd
    clear hd
    go_enter Tryz.func45, Tryz.ntmps45
    go_wp2_with fail
    go_quiet ((go_at_call 45; exact quiet_of_drew (HI.out _)))
    go_wp2_with fail
    go_ret
    exact ⟨by rw [← HD.out] <;> rfl, nq, rfl⟩
/-- the reference's number, below 100 -/
theorem rnumber_any (n : Nat) (hn : n < 100) (w : World) : Calls Tryz.prog 45 #[.int .i64 (n : Int)] w fun e w' => e = .returned (.string (num n)) ∧ Below w.heap.size w w' := by
  have h0 : ∀ k : Nat, k < 10 → ∀ W : World, Calls Tryz.prog 45 #[.int .i64 (k : Int)] W fun e w' => e = .returned (.string (num k)) ∧ ∃ q, w' = W.drewN q := fun k hk W => rnum_step k (by omega) (fun h => absurd h (by omega)) W
  exact (rnum_step n hn (fun _ => h0 (n / 10) (by omega)) w).mono fun e w' ⟨he, q, hq⟩ => ⟨he, by
    rw [hq]
    exact ⟨rfl, rfl, rfl, Nat.le_refl _, fun _ _ => rfl⟩⟩
end Go.Proofs.YtlifnabeilnblaaGreatDoor
/- Walks: scalars of the reference of types. -/
namespace Go.Proofs.YtlifnabeilnblaaGreatDoor
open Go.RowKit Go.Sort
set_option linter.unusedVariables false

theorem jn_app (p n : ByteArray) : p ++ (⟨#[46]⟩ : ByteArray) ++ n = jn p n := by
  apply bs_inj
  unfold jn
  rw [bs_mk]
  show (p ++ (⟨#[46]⟩ : ByteArray) ++ n).data.toList = _
  rw [ByteArray.data_append, ByteArray.data_append]
  simp [bs]
end Go.Proofs.YtlifnabeilnblaaGreatDoor
