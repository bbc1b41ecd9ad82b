/- Walks: Names, find of the reference of package cost. -/
import Derived.Test.YtmemkcaikajnnaaGreatDoorU2
namespace Go.Proofs.YtmemkcaikajnnaaGreatDoor
open Go.RowKit Go.Sort
set_option linter.unusedVariables false

/-- the names as cells -/
def nmsA : Array Value := (Kp.names.map fun x => Value.string (mkB x)).toArray
theorem nmsA_at {i : Nat} (h : i < 13) : nmsA[i]? = some (.string (nmK i)) := by
  unfold nmsA nmK
  rw [List.getElem?_toArray, List.getElem?_map, Kp.names_at h]; rfl
set_option maxRecDepth 100000 in
set_option maxHeartbeats 1000000 in
theorem rnames_any (w : World) : Calls Tryz.prog 12 #[] w fun r w' => (∃ g, r = .returned (.slice (some ⟨g, 0, none⟩) 13 13) ∧ Blk w' g nmsA ∧ w.heap.size ≤ g) ∧ Below w.heap.size w w' := by
  have h := Blk.new_ w nmsA 9
  have hb := al1 w (.cells nmsA 9)
  go_enter Tryz.func12, Tryz.ntmps12
  go_wp2_with fail
  go_ret
  exact ⟨⟨_, rfl, h, Nat.le_refl _⟩, hb⟩
/-- the index as find says it -/
def fiN (w : List UInt8) : Int := match Kp.idx w with | some i => (i : Int) | none => -1
set_option maxRecDepth 100000 in
set_option maxHeartbeats 1000000 in
theorem rfind_any (s : ByteArray) (w : World) : Calls Tryz.prog 30 #[.string s] w fun r w' => r = .returned (.int .i64 (fiN (bs s))) ∧ Below w.heap.size w w' := by
  obtain ⟨R, hR⟩ : ∃ R, Hid (fiN (bs s) = R) := ⟨_, Lib.hid rfl⟩
  rw [hR.out]
  go_enter Tryz.func30, Tryz.ntmps30
  go_wp2_with fail
  refine (rnames_any _).mono ?_
  rintro r w2 ⟨⟨g, rfl, hB, hg⟩, bel⟩
  go_wp2_with fail
  go_loopw [4] (fun iv wr => ∃ i : Nat, i ≤ 13 ∧ iv = .int .i64 (i : Int) ∧ Hid (∀ j, j < i → Kp.names[j]? ≠ some (bs s)) ∧ Blk wr g nmsA ∧ Below w.heap.size w wr) (fun iv _ => 13 - (intOf iv).toNat)
  case atStart => exact ⟨0, Nat.zero_le _, rfl, Lib.hid (fun j hj => absurd hj (Nat.not_lt_zero _)), hB, bel⟩
  case round =>
    clear hB bel
    obtain ⟨i, hi, rfl, HN, hB, bel⟩ := hrel
    by_cases hlt : i < 13
    · have hltI : (i : Int) < 13 := by omega
      have hcn := hB.c i (nmsA_at hlt)
      obtain ⟨U, hU⟩ : ∃ U, Hid (nmK i = U) := ⟨_, Lib.hid rfl⟩
      rw [hU.out] at hcn
      have hUb : bs U = Kp.names.getD i [] := by rw [← hU.out]; exact bs_mk _
      have hwk : IntKind.i64.wrap ((i : Int) + 1) = ((i + 1 : Nat) : Int) := (IntWalk.i64_in _ (by omega)).trans (by omega)
      by_cases he : bs U = bs s
      · have q1 : (U.toList == s.toList) = true := by rw [bs_toList, bs_toList, beq_iff_eq]; exact he
        have HF : Hid ((i : Int) = R) := Lib.hid (by
          rw [← hR.out]
          unfold fiN
          rw [Kp.idx_some HN.out hlt (by rw [Kp.names_at hlt, ← hUb, he])])
        clear he hUb HN
        go_wp2_with fail
        go_ret
        exact ⟨by rw [← HF.out]; rfl, bel⟩
      · have q1 : (U.toList == s.toList) = false := by rw [bs_toList, bs_toList, beq_eq_false_iff_ne]; exact he
        have HN2 : Hid (∀ j, j < i + 1 → Kp.names[j]? ≠ some (bs s)) := Lib.hid (fun j hj => by
          by_cases e : j = i
          · subst e
            rw [Kp.names_at hlt, ← hUb]
            intro h; injection h with h; exact he h
          · exact HN.out j (by omega))
        clear he hUb HN
        go_wp2_with fail
        go_roundw
        case rel => exact ⟨i + 1, by omega, by first | go_num | rfl, HN2, hB, bel⟩
        case measure => first | (simp [intOf]; omega) | (simp [intOf, hwk]; omega)
    · obtain rfl : i = 13 := by omega
      have HF : Hid (-1 = R) := Lib.hid (by rw [← hR.out]; unfold fiN; rw [Kp.idx_none HN.out])
      clear HN
      go_wp2_with fail
      go_ret
      exact ⟨by rw [← HF.out]; rfl, bel⟩
end Go.Proofs.YtmemkcaikajnnaaGreatDoor
