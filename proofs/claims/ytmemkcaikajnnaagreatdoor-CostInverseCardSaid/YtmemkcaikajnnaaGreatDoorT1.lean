/- Walks: consistsOf, isNumber of package cost. -/
import Derived.Test.YtmemkcaikajnnaaGreatDoorT0
import Derived.Test.YtmemkcaikajnnaaGreatDoorCx
namespace Go.Proofs.YtmemkcaikajnnaaGreatDoor
open Go.RowKit Go.Sort
set_option linter.unusedVariables false

theorem index_run3 {s : ByteArray} {i : Nat} {x : Int} (h : i < s.size) (hx : ((s[i].toNat : Nat) : Int) = x) (W : World) : (Instr.index 9 (.string s) (.int .i64 (i : Int))).run Tryz.prog W = .ok (.int .u8 x) W := by
  have e : ((i : Nat) : Int).toNat = i := by omega
  rw [run_index_string W _ s _ _ Tryz.underlying9, dif_pos ⟨by omega, by omega⟩, ← hx]
  simp only [e]
theorem take_all {s : ByteArray} {f : UInt8 → Bool} {i : Nat} (h : i < s.size) (ha : ((bs s).take i).all f = true) (hd : f s[i] = true) : ((bs s).take (i + 1)).all f = true := by
  have hl : i < (bs s).length := by rw [bs_length]; exact h
  have h2 := List.drop_eq_getElem_cons hl
  rw [drop_at h] at h2
  injection h2 with h2 _
  rw [List.take_succ_eq_append_getElem hl, List.all_append, ha, ← h2]
  simp [hd]
theorem not_all {s : ByteArray} {f : UInt8 → Bool} {i : Nat} (h : i < s.size) (hd : f s[i] = false) : (bs s).all f = false := by
  have hl : i < (bs s).length := by rw [bs_length]; exact h
  have h2 := List.drop_eq_getElem_cons hl
  rw [drop_at h] at h2
  injection h2 with h2 _
  cases hn : (bs s).all f with
  | false => rfl
  | true =>
    have h3 := List.all_eq_true.1 hn _ (List.getElem_mem hl)
    rw [← h2, hd] at h3
    cases h3
theorem nil_iff (s : ByteArray) : bs s = [] ↔ s.size = 0 := by
  rw [← bs_length]; exact List.length_eq_zero_iff.symm
set_option maxRecDepth 100000 in
set_option maxHeartbeats 1000000 in
theorem consists_any (s : ByteArray) (lo hi : Nat) (f : UInt8 → Bool) (hf : ∀ c, f c = (decide (lo ≤ c.toNat) && decide (c.toNat ≤ hi))) (hs : s.size ≤ 1000000) (w : World) :
    Calls Tryz.prog 68 #[.string s, .int .u8 (lo : Int), .int .u8 (hi : Int)] w fun r w' => r = .returned (.bool (Kp.ofR f (bs s))) ∧ Below w.heap.size w w' := by
  obtain ⟨R, hR⟩ : ∃ R, Hid (Kp.ofR f (bs s) = R) := ⟨_, Lib.hid rfl⟩
  rw [hR.out]
  have HF := Lib.hid hf
  clear hf
  go_enter Tryz.func68, Tryz.ntmps68
  go_wp2_with fail
  go_loopw [10] (fun iv wr => ∃ i : Nat, i ≤ s.size ∧ iv = .int .i64 (i : Int) ∧ Hid (((bs s).take i).all f = true) ∧ Below w.heap.size w wr) (fun iv _ => s.size - (intOf iv).toNat)
  case atStart => exact ⟨0, Nat.zero_le _, rfl, Lib.hid rfl, Below.refl _ _⟩
  case round =>
    obtain ⟨i, hi', rfl, HA, bel⟩ := hrel
    by_cases hlt : i < s.size
    · have hltI : (i : Int) < (s.size : Int) := by omega
      obtain ⟨x, hx⟩ : ∃ x : Nat, s[i].toNat = x := ⟨_, rfl⟩
      have hix := index_run3 (x := (x : Int)) hlt (by rw [hx])
      cases hd : f s[i] with
      | false =>
        obtain rfl : false = R := by rw [← hR.out]; unfold Kp.ofR; rw [not_all hlt hd]; rfl
        have hq : x < lo ∨ (¬ x < lo ∧ hi < x) := by
          rw [HF.out, hx] at hd
          rcases Nat.lt_or_ge x lo with h | h
          · exact .inl h
          · right
            rw [decide_eq_true h, Bool.true_and] at hd
            have := of_decide_eq_false hd
            omega
        clear hd hx
        rcases hq with h | ⟨h, h'⟩
        · have h1 : (x : Int) < (lo : Int) := by omega
          have h2 : decide ((x : Int) < (lo : Int)) = true := decide_eq_true h1
          have h3 : decide (x < lo) = true := decide_eq_true h
          go_wp2_with fail
          go_ret
          exact ⟨rfl, bel⟩
        · have h1 : ¬ (x : Int) < (lo : Int) := by omega
          have h2 : decide ((x : Int) < (lo : Int)) = false := decide_eq_false h1
          have h3 : (hi : Int) < (x : Int) := by omega
          have h4 : decide ((hi : Int) < (x : Int)) = true := decide_eq_true h3
          have h5 : decide (x < lo) = false := decide_eq_false h
          have h6 : decide (hi < x) = true := decide_eq_true h'
          go_wp2_with fail
          go_ret
          exact ⟨rfl, bel⟩
      | true =>
        have HA2 := Lib.hid (take_all hlt HA.out hd)
        have hq : ¬ x < lo ∧ ¬ hi < x := by
          rw [HF.out, hx, Bool.and_eq_true] at hd
          have h1 := of_decide_eq_true hd.1
          have h2 := of_decide_eq_true hd.2
          exact ⟨by omega, by omega⟩
        obtain ⟨g1, g2⟩ := hq
        have h1 : ¬ (x : Int) < (lo : Int) := by omega
        have h2 : decide ((x : Int) < (lo : Int)) = false := decide_eq_false h1
        have h3 : ¬ (hi : Int) < (x : Int) := by omega
        have h4 : decide ((hi : Int) < (x : Int)) = false := decide_eq_false h3
        have h5 : decide (x < lo) = false := decide_eq_false g1
        have h6 : decide (hi < x) = false := decide_eq_false g2
        have hwk : IntKind.i64.wrap ((i : Int) + 1) = ((i + 1 : Nat) : Int) := (IntWalk.i64_in _ (by omega)).trans (by omega)
        clear hd hx
        go_wp2_with fail
        go_roundw
        case rel => exact ⟨i + 1, by omega, by first | go_num | rfl, HA2, bel⟩
        case measure => first | (simp [intOf]; omega) | omega
    · obtain rfl : i = s.size := by omega
      have hall : (bs s).all f = true := by have h := HA.out; rwa [← bs_length, List.take_length] at h
      by_cases h0 : s.size = 0
      · have e0 := (nil_iff s).2 h0
        obtain rfl : R = false := by rw [← hR.out, e0]; rfl
        have q1 : s.toList.isEmpty = true := by rw [bs_toList, e0]; rfl
        have q2 : (s.toList == []) = true := by rw [bs_toList, e0]; rfl
        have q3 : (s.toList != []) = false := by rw [bs_toList, e0]; rfl
        clear hall HA
        go_wp2_with fail
        go_ret
        exact ⟨rfl, bel⟩
      · have hne : bs s ≠ [] := fun e => h0 ((nil_iff s).1 e)
        obtain rfl : R = true := by
          rw [← hR.out]
          unfold Kp.ofR
          rw [hall]
          cases hh : bs s with
          | nil => exact absurd hh hne
          | cons _ _ => rfl
        have q1 : s.toList.isEmpty = false := by rw [bs_toList]; cases hh : bs s with | nil => exact absurd hh hne | cons _ _ => rfl
        have q2 : (s.toList == []) = false := by rw [bs_toList, beq_eq_false_iff_ne]; exact hne
        have q3 : (s.toList != []) = true := by rw [bs_toList, bne_iff_ne]; exact hne
        clear hall HA hne
        go_wp2_with fail
        go_ret
        exact ⟨rfl, bel⟩
theorem dig_f (c : UInt8) : Kp.dig c = (decide (48 ≤ c.toNat) && decide (c.toNat ≤ 57)) := rfl
theorem low_f (c : UInt8) : Kp.low c = (decide (97 ≤ c.toNat) && decide (c.toNat ≤ 122)) := rfl
set_option maxRecDepth 100000 in
set_option maxHeartbeats 1000000 in
theorem isNumK_any (s : ByteArray) (hs : s.size ≤ 1000000) (w : World) :
    Calls Tryz.prog 69 #[.string s] w fun r w' => r = .returned (.bool (Kp.isNum (bs s))) ∧ Below w.heap.size w w' := by
  obtain ⟨R, hR⟩ : ∃ R, Hid (Kp.isNum (bs s) = R) := ⟨_, Lib.hid rfl⟩
  rw [hR.out]
  obtain ⟨F, hF⟩ : ∃ F, Hid (Kp.ofR Kp.dig (bs s) = F) := ⟨_, Lib.hid rfl⟩
  have HC := Lib.hid (fun W => (by have h := consists_any s 48 57 Kp.dig dig_f hs W; rw [hF.out] at h; exact h : Calls Tryz.prog 68 #[.string s, .int .u8 48, .int .u8 57] W fun r w' => r = .returned (.bool F) ∧ Below W.heap.size W w'))
  go_enter Tryz.func69, Tryz.ntmps69
  go_wp2_with fail
  refine (HC.out _).mono ?_
  rintro r w2 ⟨rfl, bel⟩
  cases F with
  | false =>
    obtain rfl : R = false := by
      rw [← hR.out]
      have h := hF.out
      unfold Kp.ofR at h
      unfold Kp.isNum
      cases ha : (bs s).all Kp.dig with
      | false => rfl
      | true =>
        rw [ha, Bool.true_and] at h
        have e : bs s = [] := by cases hh : bs s with | nil => rfl | cons _ _ => rw [hh] at h; cases h
        rw [e]; rfl
    go_wp2_with fail
    go_ret
    exact ⟨rfl, bel⟩
  | true =>
    have h := hF.out
    unfold Kp.ofR at h
    rw [Bool.and_eq_true] at h
    have hne : bs s ≠ [] := by intro e; rw [e] at h; exact absurd h.2 (by decide)
    have hp : 0 < s.size := by
      rcases Nat.eq_zero_or_pos s.size with h0 | h0
      · exact absurd ((nil_iff s).2 h0) hne
      · exact h0
    have hd0 := drop_at hp
    rw [List.drop_zero] at hd0
    have hl := bs_length s
    have hn : R = ((bs s) == [48] || (!(bs s).isEmpty && (bs s).head? != some 48)) := by rw [← hR.out]; unfold Kp.isNum; rw [h.1]; rfl
    by_cases h1 : bs s = [48]
    · obtain rfl : R = true := by rw [hn, h1]; rfl
      have q1 : (s.toList == [48]) = true := by rw [bs_toList, h1]; rfl
      clear h hn hne hd0 h1 hl
      go_wp2_with fail
      go_ret
      exact ⟨rfl, bel⟩
    · have q1 : (s.toList == [48]) = false := by rw [bs_toList, beq_eq_false_iff_ne]; exact h1
      have hb : (bs s == [48]) = false := by rw [beq_eq_false_iff_ne]; exact h1
      have hpI : (0 : Int) < (s.size : Int) := by omega
      by_cases h48 : s[0].toNat = 48
      · obtain rfl : R = false := by rw [hn, hb, hd0, UInt8.toNat_inj.1 (show s[0].toNat = (48 : UInt8).toNat from h48)]; rfl
        have q4 : (((s[0].toNat : Nat) : Int) != 48) = false := by rw [h48]; rfl
        clear h hn hne hd0 h1 hl hb
        go_wp2_with fail
        go_ret
        exact ⟨rfl, bel⟩
      · obtain rfl : R = true := by
          have h9 : s[0] ≠ 48 := fun e => h48 (by rw [e]; rfl)
          rw [hn, hb, hd0]
          simp [h9]
        have q4 : (((s[0].toNat : Nat) : Int) != 48) = true := by rw [bne_iff_ne]; omega
        clear h hn hne hd0 h1 hl hb
        go_wp2_with fail
        go_ret
        exact ⟨rfl, bel⟩
end Go.Proofs.YtmemkcaikajnnaaGreatDoor
