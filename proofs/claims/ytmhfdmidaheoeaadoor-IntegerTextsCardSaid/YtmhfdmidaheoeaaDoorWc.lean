/- Walks: the reference's Clean, Neg, Abs, Sign, Valid, Equal; the law's short and same. -/
import Derived.Test.YtmhfdmidaheoeaaDoorWb
namespace Go.Proofs.YtmhfdmidaheoeaaDoor
open Go.RowKit
set_option linter.unusedVariables false

set_option maxRecDepth 100000 in
set_option maxHeartbeats 400000 in
theorem rneg_any (neg : Bool) (A : Option Addr) (c : Nat) (ws : List Nat) (w : World) (h : Sl w w.heap.size A c ws) (hl : ws.length ≤ 1000000000) :
    Calls Tryd.prog 64 #[intV neg A ws.length c] w (IntRes (Kn.iv (!neg) ws) w) := by
  obtain ⟨z, hz⟩ : ∃ z : Int, z = Kn.iv (!neg) ws := ⟨_, rfl⟩
  rw [← hz]
  have HZ := Lib.hid hz
  clear hz
  have HM : Hid (∀ w : World, Sl w w.heap.size A c ws → Calls Tryd.prog 32 #[.bool (!neg), .slice A ws.length c] w (IntRes z w)) := Lib.hid (fun w h => by rw [HZ.out]; exact made_any (!neg) A c ws w h hl)
  unfold intV
  go_enter Tryd.func64, Tryd.ntmps64
  go_wp2_with fail
  have i := B2.new_ w neg A ws.length c 24 24
  revert i
  generalize (w.alloc (.cells #[.bool neg, .slice A ws.length c] 24)).alloc (.cells #[.bool false, .slice none 0 0] 24) = wx
  intro i
  have c10 := i.t1.c0
  have c11 := i.t1.c1
  go_wp2_with fail
  refine (HM.out _ ((h.below i.bel).more i.bel.size)).mono ?_
  rintro e w3 ⟨A3, c3, rfl, hS3, hb3⟩
  replace i := i.below hb3
  clear c10 c11
  have d20 := i.t2.c0
  have d21 := i.t2.c1
  have f20 := i.t2.fr 0
  have f21 := i.t2.fr 1
  have R := Lib.hid (two_set w3 (.bool (decide (z < 0))) (.slice A3 (Kn.dig z.natAbs).length c3) d20 d21)
  go_wp2_with fail
  obtain ⟨r0, r1⟩ := R.out
  refine bodyPost_ret (v := .agg #[.bool (decide (z < 0)), .slice A3 (Kn.dig z.natAbs).length c3]) (by simp [results, Tryd.results64, go_sem, r0, r1]) rfl ?_
  exact i.fin hS3

set_option maxHeartbeats 400000 in
theorem rsign_any (neg : Bool) (A : Option Addr) (c : Nat) (ws : List Nat) (w : World) (h : Sl w w.heap.size A c ws) (hl : ws.length ≤ 1000000000) :
    Calls Tryd.prog 11 #[intV neg A ws.length c] w fun e w' => e = .returned (.int .i64 (Kn.iv neg ws).sign) ∧ Below w.heap.size w w' := by
  obtain ⟨m, hm⟩ : ∃ m : Nat, Hid (m = (Kn.dig (Kn.val ws)).length) := ⟨_, Lib.hid rfl⟩
  have hv := Lib.hid (val_nil_of hm.out)
  have HT : Hid (∀ w : World, Sl w w.heap.size A c ws → Calls Tryd.prog 30 #[.slice A ws.length c] w fun e w' => ∃ A' c', e = .returned (.slice A' m c') ∧ Below w.heap.size w w') := Lib.hid (fun w h => by
    rw [hm.out]; exact (rtrim_any A c ws w h hl).mono fun e w' ⟨A', c', he, _, hb⟩ => ⟨A', c', he, hb⟩)
  unfold intV
  have hX := (h.alloc (Nat.le_refl _) (.cells #[.bool neg, .slice A ws.length c] 24)).more (B' := (w.alloc (.cells #[.bool neg, .slice A ws.length c] 24)).heap.size) (by simp)
  have t0 := Two.new_ w (.bool neg) (.slice A ws.length c) 24
  have hB0 := al1 w (.cells #[.bool neg, .slice A ws.length c] 24)
  go_enter Tryd.func11, Tryd.ntmps11
  go_wp2_with fail
  refine (HT.out _ hX).mono ?_
  rintro e w2 ⟨A', c', rfl, hb⟩
  have t1 := t0.below hb (by simp)
  have hB : Below w.heap.size w w2 := hB0.trans (hb.mono (by simp))
  clear hX t0 hB0 hb
  have c10 := t1.c0
  by_cases h0 : m = 0
  · have hm0 : ((m : Int) == 0) = true := by simp; omega
    have H0 := Lib.hid h0
    clear h0
    go_wp2_with fail
    go_ret
    exact ⟨ret_int (by have := hv.out.1 H0.out; unfold Kn.iv; cases neg <;> simp [this]), hB⟩
  · have hm0 : ((m : Int) == 0) = false := by simp; omega
    have H0 := Lib.hid h0
    clear h0
    have hp : Hid (0 < Kn.val ws) := Lib.hid (by have := mt hv.out.2 H0.out; omega)
    cases neg
    all_goals
      go_wp2_with fail
      go_ret
      exact ⟨ret_int (by have := hp.out; unfold Kn.iv; simp; exact (Int.sign_eq_one_iff_pos.2 (by omega)).symm), hB⟩

set_option maxHeartbeats 400000 in
theorem short_any (neg : Bool) (A : Option Addr) (c n : Nat) (w : World) :
    Calls Tryd.prog 7 #[.agg #[.bool neg, .slice A n c]] w fun e w' => e = .returned (.bool (decide (n ≤ 10))) ∧ Below w.heap.size w w' := by
  go_enter Tryd.func7, Tryd.ntmps7
  go_wp2
  go_ret
  exact ⟨ret_bool (by simp; omega), al1 _ _⟩

set_option maxRecDepth 100000 in
set_option maxHeartbeats 1000000 in
theorem requal_any (p : Bool) (A : Option Addr) (ca : Nat) (a : List Nat) (q : Bool) (B : Option Addr) (cb : Nat) (b : List Nat) (w : World) (ha : Sl w w.heap.size A ca a) (hb : Sl w w.heap.size B cb b) (hla : a.length ≤ 1000000000) (hlb : b.length ≤ 1000000000) :
    Calls Tryd.prog 36 #[.agg #[.bool p, .slice A a.length ca], .agg #[.bool q, .slice B b.length cb]] w fun e w' => e = .returned (.bool (decide (p = q ∧ a = b))) ∧ Below w.heap.size w w' := by
  obtain ⟨R, hR⟩ : ∃ R : Bool, Hid (decide (p = q ∧ a = b) = R) := ⟨_, Lib.hid rfl⟩
  rw [hR.out]
  by_cases hpq : p = q
  · subst hpq
    have hpp : (p != p) = false := by simp
    by_cases hl : a.length = b.length
    · have hle : ((a.length : Int) != (b.length : Int)) = false := by simp [hl]
      have hle2 : (a.length != b.length) = false := by simp [hl]
      have l1 : a.length ≤ b.length := by omega
      have l2 : b.length ≤ a.length := by omega
      have HL := Lib.hid hl
      clear hl
      go_enter Tryd.func36, Tryd.ntmps36
      go_wp2_with fail
      have i := P2.new_ w p A a.length ca p B b.length cb 24
      revert i
      generalize (w.alloc (.cells #[.bool p, .slice A a.length ca] 24)).alloc (.cells #[.bool p, .slice B b.length cb] 24) = w1
      intro i
      have c10 := i.t1.c0
      have c11 := i.t1.c1
      have c20 := i.t2.c0
      have c21 := i.t2.c1
      have hX := (ha.below i.bel).more i.bel.size
      have hY := (hb.below i.bel).more i.bel.size
      go_wp2_with fail
      go_loopw [5] (fun v wr => ∃ k q : Nat, k ≤ a.length ∧ v = .int .i64 (k : Nat) ∧ wr = w1.drewN q ∧ Hid (a.take k = b.take k)) (fun v _ => a.length - (intOf v).toNat)
      case atStart => exact ⟨0, 0, Nat.zero_le _, rfl, rfl, Lib.hid rfl⟩
      case round =>
        obtain ⟨k, q, hk, rfl, rfl, HI⟩ := hrel
        by_cases hlt : k < a.length
        · obtain ⟨b1, o1, x, hA1, hb1, hc1, hx, hxl⟩ := hX.word hlt
          obtain ⟨b2, o2, y, hB2, hb2, hc2, hy, hyl⟩ := hY.word (show k < b.length by omega)
          subst hA1 hB2
          have hltb : k < b.length := by omega
          have k1 : (k : Int) < (a.length : Int) := by omega
          have k2 : (k : Int) < (b.length : Int) := by omega
          by_cases hxy : x = y
          · subst hxy
            have HI2 : Hid (a.take (k + 1) = b.take (k + 1)) := Lib.hid (by rw [Kn.take_snoc a hlt, Kn.take_snoc b hltb, HI.out, ← hx.out, ← hy.out])
            go_wp2_with fail
            go_quiet (fail)
            go_wp2_with fail
            go_roundw
            case rel => exact ⟨k + 1, _, by omega, by go_num, rfl, HI2⟩
            case measure => simp [intOf]; omega
          · have hne : ((x : Int) != (y : Int)) = true := by simp; omega
            have hne2 : (x != y) = true := by simp; omega
            have HF : Hid (false = R) := Lib.hid (by
              rw [← hR.out]
              exact (decide_eq_false (fun h => hxy (by rw [hx.out, hy.out, h.2]))).symm)
            clear hxy
            go_wp2_with fail
            go_quiet (fail)
            go_wp2_with fail
            go_ret
            exact ⟨ret_bool HF.out, bDrew (bDrew i.bel _) _⟩
        · obtain rfl : k = a.length := by omega
          have HT : Hid (true = R) := Lib.hid (by
            rw [← hR.out]
            have e := HI.out
            rw [List.take_of_length_le (Nat.le_refl _), List.take_of_length_le (by omega)] at e
            exact (decide_eq_true ⟨by first | rfl | trivial, e⟩).symm)
          go_wp2_with fail
          go_ret
          exact ⟨ret_bool HT.out, bDrew i.bel _⟩
    · have hle : ((a.length : Int) != (b.length : Int)) = true := by simp; omega
      have hle2 : (a.length != b.length) = true := by simp; omega
      have HF : Hid (false = R) := Lib.hid (by
        rw [← hR.out]
        exact (decide_eq_false (fun h => hl (by rw [h.2]))).symm)
      clear hl
      go_enter Tryd.func36, Tryd.ntmps36
      go_wp2_with fail
      go_ret
      exact ⟨ret_bool HF.out, (P2.new_ w p A a.length ca p B b.length cb 24).bel⟩
  · have HF : Hid (false = R) := Lib.hid (by
      rw [← hR.out]
      exact (decide_eq_false (fun h => hpq h.1)).symm)
    have HP := Lib.hid hpq
    clear hpq hR
    cases p <;> cases q
    · exact absurd rfl HP.out
    · go_enter Tryd.func36, Tryd.ntmps36
      go_wp2_with fail
      go_ret
      exact ⟨ret_bool HF.out, (P2.new_ w false A a.length ca true B b.length cb 24).bel⟩
    · go_enter Tryd.func36, Tryd.ntmps36
      go_wp2_with fail
      go_ret
      exact ⟨ret_bool HF.out, (P2.new_ w true A a.length ca false B b.length cb 24).bel⟩
    · exact absurd rfl HP.out

set_option maxRecDepth 100000 in
set_option maxHeartbeats 400000 in
theorem same_any (p : Bool) (A : Option Addr) (ca : Nat) (a : List Nat) (q : Bool) (B : Option Addr) (cb : Nat) (b : List Nat) (w : World) (ha : Sl w w.heap.size A ca a) (hb : Sl w w.heap.size B cb b) (hla : a.length ≤ 1000000000) (hlb : b.length ≤ 1000000000) :
    Calls Tryd.prog 10 #[.agg #[.bool p, .slice A a.length ca], .agg #[.bool q, .slice B b.length cb]] w fun e w' => e = .returned (.bool (decide (p = q ∧ a = b))) ∧ Below w.heap.size w w' := by
  obtain ⟨R, hR⟩ : ∃ R : Bool, Hid (decide (p = q ∧ a = b) = R) := ⟨_, Lib.hid rfl⟩
  have HE : Hid (∀ w : World, Sl w w.heap.size A ca a → Sl w w.heap.size B cb b → Calls Tryd.prog 36 #[.agg #[.bool p, .slice A a.length ca], .agg #[.bool q, .slice B b.length cb]] w fun e w' => e = .returned (.bool R) ∧ Below w.heap.size w w') := Lib.hid (fun w ha hb => by
    rw [← hR.out]; exact requal_any p A ca a q B cb b w ha hb hla hlb)
  rw [hR.out]
  go_enter Tryd.func10, Tryd.ntmps10
  go_wp2_with fail
  have i := P2.new_ w p A a.length ca q B b.length cb 24
  revert i
  generalize (w.alloc (.cells #[.bool p, .slice A a.length ca] 24)).alloc (.cells #[.bool q, .slice B b.length cb] 24) = w1
  intro i
  have c10 := i.t1.c0
  have c11 := i.t1.c1
  have c20 := i.t2.c0
  have c21 := i.t2.c1
  go_wp2_with fail
  refine (HE.out _ ((ha.below i.bel).more i.bel.size) ((hb.below i.bel).more i.bel.size)).mono ?_
  rintro e w2 ⟨rfl, hb2⟩
  go_wp2_with fail
  go_ret
  exact ⟨rfl, i.bel.trans (hb2.mono i.bel.size)⟩
end Go.Proofs.YtmhfdmidaheoeaaDoor
