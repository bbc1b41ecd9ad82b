/- Walks: bitset.Valid and the reference's Valid. -/
import Derived.Test.YtckenemkfegopaaDoorW1
namespace Go.Proofs.YtckenemkfegopaaDoor
open Go.RowKit
set_option linter.unusedVariables false


theorem valid_len {size : Int} {ws : List Nat} (h0 : 0 ≤ size) (h : ws.length ≠ Kb.nw size.toNat) : Kb.validB size ws = false := by
  unfold Kb.validB; simp [h]
theorem valid_size {size : Int} {ws : List Nat} (h : ¬ (0 ≤ size ∧ size ≤ 4096)) : Kb.validB size ws = false := by
  unfold Kb.validB
  by_cases h1 : 0 ≤ size
  · have : ¬ size ≤ 4096 := fun h2 => h ⟨h1, h2⟩
    simp [this]
  · simp [h1]

theorem isSize_yes (n : Int) (h0 : 0 ≤ n) (h1 : n ≤ 4096) (w : World) :
    Calls Tryd.prog 126 #[.int .i64 n] w fun e w' => e = .returned (.bool true) ∧ w = w' := by
  have := isSize_any n w
  simpa [h0, h1] using this
theorem isSize_no (n : Int) (h : ¬ (0 ≤ n ∧ n ≤ 4096)) (w : World) :
    Calls Tryd.prog 126 #[.int .i64 n] w fun e w' => e = .returned (.bool false) ∧ w = w' := by
  have := isSize_any n w
  have e : (decide (0 ≤ n) && decide (n ≤ 4096)) = false := by
    rw [← Bool.decide_and]; exact decide_eq_false h
  rw [e] at this; exact this
theorem wordsFor_int (n : Int) (h0 : 0 ≤ n) (h1 : n ≤ 4096) (m : Nat) (hm : Hid (m = Kb.nw n.toNat)) (w : World) :
    Calls Tryd.prog 127 #[.int .i64 n] w fun e w' => e = .returned (.int .i64 (m : Int)) ∧ w = w' := by
  obtain ⟨k, rfl⟩ := Int.eq_ofNat_of_zero_le h0
  rw [hm.out]
  exact wordsFor_any k (by omega) w

theorem valid_full {size : Int} {ws : List Nat} (hlt : ∀ x ∈ ws, x < 2 ^ 64) (h0 : 0 ≤ size) (h1 : size ≤ 4096) (he : ws.length = Kb.nw size.toNat) (hu : size % 64 = 0) : Kb.validB size ws = true :=
  (Kb.validB_iff hlt).2 ⟨h0, h1, he, hlt, fun i hi => Kb.tail_full he (by omega) i hi⟩

theorem valid_last {size : Int} {ws : List Nat} (hlt : ∀ x ∈ ws, x < 2 ^ 64) (h0 : 0 ≤ size) (h1 : size ≤ 4096) (he : ws.length = Kb.nw size.toNat) (hu : size % 64 ≠ 0) (x : Nat) (hx : x = ws.getD (ws.length - 1) 0) :
    ((x : Int) / 2 ^ (size % 64).toNat == 0) = Kb.validB size ws := by
  have e : (size % 64).toNat = size.toNat % 64 := by omega
  have ht := Kb.tail_last he hlt (by omega)
  rw [← hx] at ht
  rw [Bool.eq_iff_iff, Kb.validB_iff hlt, e]
  have e2 : ((x : Int) / 2 ^ (size.toNat % 64) == 0) = true ↔ x / 2 ^ (size.toNat % 64) = 0 := by
    rw [beq_iff_eq]
    have : ((x / 2 ^ (size.toNat % 64) : Nat) : Int) = (x : Int) / 2 ^ (size.toNat % 64) := by rw [Int.natCast_ediv, Int.natCast_pow]; rfl
    rw [← this]; omega
  rw [e2, ht]
  exact ⟨fun h => ⟨h0, h1, he, hlt, h⟩, fun h => h.2.2.tail⟩

set_option maxRecDepth 100000 in
set_option maxHeartbeats 400000 in
theorem bvalid_any (size : Int) (A : Option Addr) (c : Nat) (ws : List Nat) (w : World) (h : Words w w.heap.size A ws) (hl : ws.length ≤ 140737488351232) :
    Calls Tryd.prog 91 #[setV size A ws.length c] w fun e w' => e = .returned (.bool (Kb.validB size ws)) ∧ Below w.heap.size w w' := by
  unfold setV
  by_cases hs : 0 ≤ size ∧ size ≤ 4096
  · obtain ⟨m, hm⟩ : ∃ m : Nat, Hid (m = Kb.nw size.toNat) := ⟨_, Lib.hid rfl⟩
    obtain ⟨h0, h1⟩ := hs
    by_cases he : ws.length = m
    · have he1 : ((ws.length : Int) != (m : Int)) = false := by simp; omega
      have hE := Lib.hid he
      clear he
      by_cases hu : size % 64 = 0
      · have hv : Hid (Kb.validB size ws = true) := Lib.hid (valid_full h.lt h0 h1 (by rw [hE.out, hm.out]) hu)
        have hu1 : (size % 64 == 0) = true := by simp [hu]
        have hU := Lib.hid hu
        clear hu
        go_enter Tryd.func91, Tryd.ntmps91
        go_wp2_with fail
        go_quiet (first | (go_at_call 126; exact quiet_of_eq (isSize_yes _ h0 h1 _)) | (go_at_call 127; exact quiet_of_eq (wordsFor_int _ h0 h1 m hm _)))
        go_wp2_with fail
        go_ret
        exact ⟨ret_bool hv.out.symm, bBox _ _ _⟩
      · have hn : 0 < ws.length := by rw [hE.out, hm.out]; unfold Kb.nw; omega
        obtain ⟨b, off, x, rfl, hb, hc, hx⟩ := h.at_ (k := ws.length - 1) (by omega)
        have hv : Hid (((x : Int) / 2 ^ (size % 64).toNat == 0) = Kb.validB size ws) := Lib.hid (valid_last h.lt h0 h1 (by rw [hE.out, hm.out]) hu x hx.out.1)
        have hu1 : (size % 64 == 0) = false := by simp [hu]
        have hU := Lib.hid hu
        clear hu
        have e3 : ((ws.length : Int) - 1).toNat = ws.length - 1 := by omega
        go_enter Tryd.func91, Tryd.ntmps91
        go_wp2_with fail
        go_quiet (first | (go_at_call 126; exact quiet_of_eq (isSize_yes _ h0 h1 _)) | (go_at_call 127; exact quiet_of_eq (wordsFor_int _ h0 h1 m hm _)))
        go_wp2_with fail
        go_ret
        exact ⟨ret_bool hv.out, bBox _ _ _⟩
    · have he1 : ((ws.length : Int) != (m : Int)) = true := by simp; omega
      have hE := Lib.hid he
      clear he
      have hv : Hid (Kb.validB size ws = false) := Lib.hid (valid_len h0 (by rw [← hm.out]; exact hE.out))
      go_enter Tryd.func91, Tryd.ntmps91
      go_wp2_with fail
      go_quiet (first | (go_at_call 126; exact quiet_of_eq (isSize_yes _ h0 h1 _)) | (go_at_call 127; exact quiet_of_eq (wordsFor_int _ h0 h1 m hm _)))
      go_wp2_with fail
      go_ret
      exact ⟨ret_bool hv.out.symm, bBox _ _ _⟩
  · have hv : Hid (Kb.validB size ws = false) := Lib.hid (valid_size hs)
    have hS := Lib.hid hs
    clear hs
    go_enter Tryd.func91, Tryd.ntmps91
    go_wp2_with fail
    go_quiet ((go_at_call 126; exact quiet_of_eq (isSize_no _ hS.out _)))
    go_wp2_with fail
    go_ret
    exact ⟨ret_bool hv.out.symm, bBox _ _ _⟩
end Go.Proofs.YtckenemkfegopaaDoor
