/- Walks: the reference of package cost: node, Sum, isPlace, List, Check, counts. -/
import Derived.Test.YtmemkcaikajnnaaGreatDoorRf
namespace Go.Proofs.YtmemkcaikajnnaaGreatDoor
open Go.RowKit Go.Sort
set_option linter.unusedVariables false

/-- a new list of numbers -/
def NewZs (zs : List Int) (w : World) (r : Ending) (w' : World) : Prop := ∃ (A : Option Addr) (c : Nat), r = .returned (.slice A zs.length c) ∧ Zs w' w'.heap.size A zs ∧ Below w.heap.size w w'
set_option maxRecDepth 100000 in
set_option maxHeartbeats 1000000 in
theorem rlist_any (c : C) (w : World) : Calls Tryz.prog 13 #[c.val] w (NewZs c.list w) := by
  go_enter Tryz.func13, Tryz.ntmps13
  go_wp2_with fail
  go_ret
  refine ⟨some ⟨w.heap.size + 1, 0, none⟩, 13, rfl, ?_, (al1 w _).alloc (by simp) _⟩
  have := Zs.new_ (w.alloc (.cells c.box 23)) c.list 3 c.box rfl
  rwa [World.size_alloc w] at this
set_option maxRecDepth 100000 in
set_option maxHeartbeats 1000000 in
theorem rcheck_any (c : C) (w : World) : Calls Tryz.prog 10 #[c.val] w fun r w' => r = .returned (.int .i64 c.code) ∧ Below w.heap.size w w' := by
  go_enter Tryz.func10, Tryz.ntmps10
  go_wp2_with fail
  refine (rlist_any c _).mono ?_
  rintro r w1 ⟨A, cp, rfl, hZ, b1⟩
  have b2 := bTrans (al1 w _) b1
  have hlen : c.list.length = 13 := rfl
  obtain ⟨zs, hzs⟩ : ∃ zs, Hid (c.list = zs) := ⟨_, Lib.hid rfl⟩
  rw [hzs.out] at hZ hlen ⊢
  have HC : Hid (c.code = if zs.all (fun x => decide (0 ≤ x) && decide (x ≤ 100)) then 0 else 3) := Lib.hid (by rw [← hzs.out]; rfl)
  have hlen2 : zs.length ≤ 1000000 := by omega
  clear b1 hlen
  go_wp2_with fail
  go_loop [4] (fun iv => ∃ i : Nat, i ≤ zs.length ∧ iv = .int .i64 i ∧ Hid (∀ j, (hj : j < zs.length) → j < i → 0 ≤ zs[j] ∧ zs[j] ≤ 100)) (fun iv => zs.length - (intOf iv).toNat)
  case atStart => exact ⟨0, Nat.zero_le _, rfl, Lib.hid (fun j hj h => absurd h (Nat.not_lt_zero _))⟩
  case round =>
    obtain ⟨i, hi, rfl, hz⟩ := hrel
    by_cases hlt : i < zs.length
    · obtain ⟨b, off, x, rfl, hb, c0, hx⟩ := hZ.at_ hlt
      have HBAD : Hid (x < 0 ∨ 100 < x → c.code = 3) := Lib.hid (fun hq => by
        rw [HC.out, if_neg]
        intro hk
        obtain ⟨_, e2⟩ := hx.out
        have := List.all_eq_true.1 hk x (by rw [← e2]; exact List.getElem_mem _)
        simp at this
        omega)
      by_cases h1 : x < 0
      · have HR := Lib.hid (HBAD.out (.inl h1))
        clear HBAD
        go_wp2_with fail
        go_ret
        exact ⟨ret_int HR.out.symm, b2⟩
      · by_cases h2 : 100 < x
        · have HR := Lib.hid (HBAD.out (.inr h2))
          clear HBAD
          go_wp2_with fail
          go_ret
          exact ⟨ret_int HR.out.symm, b2⟩
        · have HN : Hid (∀ j, (hj : j < zs.length) → j < i + 1 → 0 ≤ zs[j] ∧ zs[j] ≤ 100) := Lib.hid (fun j hj h => by
            by_cases e : j = i
            · subst e; obtain ⟨_, e2⟩ := hx.out; rw [e2]; omega
            · exact hz.out j hj (by omega))
          clear HBAD hz
          go_wp2_with fail
          go_round
          case rel => exact ⟨i + 1, by omega, by go_num, HN⟩
          case measure => simp [intOf]; omega
    · obtain rfl : i = zs.length := by omega
      have HR : Hid (c.code = 0) := Lib.hid (by
        rw [HC.out, if_pos]
        rw [List.all_eq_true]
        intro x hx
        obtain ⟨j, hj, rfl⟩ := List.mem_iff_getElem.1 hx
        have := hz.out j hj hj
        simpa using this)
      go_wp2_with fail
      go_ret
      exact ⟨ret_int HR.out.symm, b2⟩
end Go.Proofs.YtmemkcaikajnnaaGreatDoor
