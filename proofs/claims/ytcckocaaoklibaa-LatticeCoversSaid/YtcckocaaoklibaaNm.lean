/- Walks: the reference's chain and Height. -/
import Derived.Test.YtcckocaaoklibaaNl
import Derived.StillTailTactics
namespace Go.Proofs.Ytcckocaaoklibaa
open Go.RowKit Go.Maps
set_option linter.unusedVariables false

theorem Kl.room_pos {L : Nat → Nat → Bool} {n a : Nat} (h : Kl.Lat L n) (ha : a < n) : 0 < ((List.range n).filter fun c => L a c).length :=
  List.length_pos_of_mem (List.mem_filter.2 ⟨List.mem_range.2 ha, h.pre.refl a⟩)

set_option maxRecDepth 100000 in
set_option maxHeartbeats 8000000 in
theorem chain_ok (An : Option Addr) (n cn : Nat) (Al : Option Addr) (cl : Nat) (hn : n ≤ 12) (L : Nat → Nat → Bool) (hL : Kl.Lat L n) : ∀ (k a : Nat) (w : World), a < n → ((List.range n).filter fun c => L a c).length ≤ k → LeM w w.heap.size Al n L →
    Calls Try.prog 22 #[rlV An n cn Al cl, .int .i64 (a : Int)] w fun e w' => ∃ C : Nat, e = .returned (.int .i64 (C : Int)) ∧ Kl.IsC L n a C ∧ Below w.heap.size w w' := by
  intro k
  induction k with
  | zero => intro a w ha hk h; have := Kl.room_pos hL ha; omega
  | succ k ih =>
    intro a w ha hk h
    have IH := Lib.hid ih
    have HK := Lib.hid hk
    have HL := Lib.hid hL
    have HA := Lib.hid ha
    clear ih hk hL
    have b0 : Below w.heap.size w (w.alloc (.cells #[.slice An n cn, .slice Al n cl] 28)) := al1 _ _
    have t0 : Two (w.alloc (.cells #[.slice An n cn, .slice Al n cl] 28)) w.heap.size (.slice An n cn) (.slice Al n cl) := Two.new_ _ _ _ _
    have h0 := h.at b0
    have hcov := fun W hW => rcovers_ok An n cn Al cl hn L W hW
    have HC := Lib.hid hcov
    clear hcov h
    unfold rlV
    have c0 := t0.c0
    have c1 := t0.c1
    go_enter Try.func22, Try.ntmps22
    go_wp2_with fail
    refine (HC.out _ h0).mono ?_
    rintro e w1 ⟨A, c, rfl, hP, b1⟩
    clear c0 c1
    have t1 := t0.below b1 t0.lt
    have h1 := h0.at b1
    replace b0 := bTrans b0 b1
    clear b1 h0 t0
    have hlen := Kl.cvTo_len L n n
    have hlen2 : n * n ≤ 12 * 12 := Nat.mul_le_mul hn hn
    have hlen3 : (Kl.cvTo L n n).length ≤ 144 := by omega
    clear hlen hlen2
    have hmem : Hid (∀ i, i < (Kl.cvTo L n n).length → ∃ a c, a < n ∧ c < n ∧ Kl.cvB L n a c = true ∧ prAt (Kl.cvTo L n n) i = ((a : Int), (c : Int))) := Lib.hid fun i hi => by
      have e1 : prAt (Kl.cvTo L n n) i = (Kl.cvTo L n n)[i] := by unfold prAt; rw [List.getD_eq_getElem?_getD, List.getElem?_eq_getElem hi]; rfl
      have := Kl.cv_mem.1 (List.getElem_mem hi)
      obtain ⟨a, c, q1, q2, q3, q4⟩ := this
      exact ⟨a, c, q1, q2, q3, e1.trans q4⟩
    have hdone : Hid (∀ B, Kl.IsB L n a (Kl.cvTo L n n) (Kl.cvTo L n n).length B → Kl.IsC L n a (B + 1)) := Lib.hid fun B q => q.done HL.out HA.out
    revert hP hlen3 hmem hdone
    generalize Kl.cvTo L n n = ps
    intro hP hlen3 hmem hdone
    go_wp2_with fail
    go_loopw [5, 7] (fun bv iv wr => ∃ i B : Nat, i ≤ ps.length ∧ iv = .int .i64 (i : Int) ∧ bv = .int .i64 (B : Int) ∧ B ≤ n ∧ Below w1.heap.size w1 wr ∧ Kl.IsB L n a ps i B) (fun _ iv _ => ps.length - (intOf iv).toNat)
    case atStart => exact ⟨0, 0, Nat.zero_le _, rfl, rfl, Nat.zero_le _, Below.refl _ _, Kl.IsB.start ps⟩
    case round =>
      obtain ⟨i, B, hi, rfl, rfl, hBn, hb, Q⟩ := hrel
      by_cases hil : i < ps.length
      · have hiI : (i : Int) < (ps.length : Int) := by omega
        obtain ⟨a', d, ha', hd, hcv, hpr⟩ := hmem.out i hil
        have hP2 := hP.at hb
        obtain ⟨bk, off, x, y, rfl, hbb, hcx, hcy, hxy⟩ := hP2.at_ hil
        have hx : x = (a' : Int) := by rw [hxy.out.1, hpr]
        have hy : y = (d : Int) := by rw [hxy.out.2, hpr]
        subst hx hy
        by_cases hax : a' = a
        · obtain rfl : a = a' := hax.symm
          have q1 : ((a : Int) == (a : Int)) = true := by simp
          have hroom := Kl.room_lt HL.out HA.out hd hcv
          have hcall : ∀ W, LeM W W.heap.size Al n L → Calls Try.prog 22 #[rlV An n cn Al cl, .int .i64 (d : Int)] W fun e w' => ∃ C : Nat, e = .returned (.int .i64 (C : Int)) ∧ Kl.IsC L n d C ∧ Below W.heap.size W w' := fun W hW => IH.out d W hd (by have := HK.out; omega) hW
          have HCALL := Lib.hid hcall
          have HPR := Lib.hid hpr
          have HCV := Lib.hid hcv
          have h2 := h1.at hb
          have t2 := t1.below hb t1.lt
          have e0 := t2.c0
          have e1 := t2.c1
          clear hcall hroom hpr hcv hP2 hxy
          go_wp2_with fail
          go_still_tail 6, (by kernel_rfl)
          change wpList _ _ _ _ _ wr.drew
          have hb2 : Below w1.heap.size w1 wr.drew := hb.drew
          have h3 := h1.at hb2
          clear e0 e1 hcx hcy h2 t2 hb
          revert hb2 h3
          generalize wr.drew = w2
          intro hb2 h3
          go_wp2_with fail
          refine (HCALL.out _ h3).mono ?_
          rintro e w3 ⟨C, rfl, hC, b3⟩
          have hb4 := bTrans hb2 b3
          have hCn := Lib.hid (hC.small HL.out hd)
          clear h3 b3 hb2
          by_cases hBC : B < C
          · have g1 : (B : Int) < (C : Int) := by omega
            have Q2 := Q.step hd HCV.out HPR.out hC (x := C) (by omega)
            clear Q
            go_wp2_with fail
            go_roundw
            case rel => exact ⟨i + 1, C, by omega, by go_num, rfl, hCn.out, hb4, Q2⟩
            case measure => simp [intOf]; omega
          · have g1 : ¬ (B : Int) < (C : Int) := by omega
            have Q2 := Q.step hd HCV.out HPR.out hC (x := B) (by omega)
            clear Q
            go_wp2_with fail
            go_roundw
            case rel => exact ⟨i + 1, B, by omega, by go_num, rfl, hBn, hb4, Q2⟩
            case measure => simp [intOf]; omega
        · have q1 : ((a' : Int) == (a : Int)) = false := by simp; omega
          have Q2 := Q.skip (by rw [show ps.getD i (0, 0) = prAt ps i from rfl, hpr]; intro e; exact hax (by have e2 : (a' : Int) = (a : Int) := e; omega))
          clear Q hax hpr hcv hxy hP2
          go_wp2_with fail
          go_roundw
          case rel => exact ⟨i + 1, B, by omega, by go_num, rfl, hBn, hb, Q2⟩
          case measure => simp [intOf]; omega
      · obtain rfl : i = ps.length := by omega
        have HR := Lib.hid (hdone.out B Q)
        clear Q
        go_wp2_with fail
        go_ret
        exact ⟨B + 1, ret_int (by omega), HR.out, bTrans b0 hb⟩

set_option maxRecDepth 100000 in
set_option maxHeartbeats 8000000 in
theorem rheight_ok (An : Option Addr) (n cn : Nat) (Al : Option Addr) (cl : Nat) (hn : n ≤ 12) (hn0 : 0 < n) (L : Nat → Nat → Bool) (hL : Kl.Lat L n) (w : World) (h : LeM w w.heap.size Al n L) :
    Calls Try.prog 10 #[rlV An n cn Al cl] w fun e w' => ∃ H : Nat, e = .returned (.int .i64 (H : Int)) ∧ Kl.IsH (Kl.up L n) n H ∧ Below w.heap.size w w' := by
  have hch : ∀ a W, a < n → LeM W W.heap.size Al n L → Calls Try.prog 22 #[rlV An n cn Al cl, .int .i64 (a : Int)] W fun e w' => ∃ C : Nat, e = .returned (.int .i64 (C : Int)) ∧ Kl.IsC L n a C ∧ Below W.heap.size W w' := fun a W ha hW => chain_ok An n cn Al cl hn L hL _ a W ha (Nat.le_refl _) hW
  have HCH := Lib.hid hch
  have HL := Lib.hid hL
  have H0 := Lib.hid hn0
  clear hch hL hn0
  have b0 : Below w.heap.size w (w.alloc (.cells #[.slice An n cn, .slice Al n cl] 28)) := al1 _ _
  have t0 : Two (w.alloc (.cells #[.slice An n cn, .slice Al n cl] 28)) w.heap.size (.slice An n cn) (.slice Al n cl) := Two.new_ _ _ _ _
  have h0 := h.at b0
  clear h
  unfold rlV
  go_enter Try.func10, Try.ntmps10
  go_wp2_with fail
  revert b0 t0 h0
  generalize w.alloc (.cells #[.slice An n cn, .slice Al n cl] 28) = w1
  intro b0 t0 h0
  go_loopw [3, 4] (fun bv iv wr => ∃ i B : Nat, i ≤ n ∧ iv = .int .i64 (i : Int) ∧ bv = .int .i64 (B : Int) ∧ B ≤ n ∧ Below w1.heap.size w1 wr ∧ Kl.IsT L n i B) (fun _ iv _ => n - (intOf iv).toNat)
  case atStart => exact ⟨0, 0, Nat.zero_le _, rfl, rfl, Nat.zero_le _, Below.refl _ _, Kl.IsT.start⟩
  case round =>
    obtain ⟨i, B, hi, rfl, rfl, hBn, hb, Q⟩ := hrel
    have t2 := t0.below hb t0.lt
    have e0 := t2.c0
    by_cases hil : i < n
    · have hiI : (i : Int) < (n : Int) := by omega
      have e1 := t2.c1
      have h2 := h0.at hb
      go_wp2_with fail
      refine (HCH.out i _ hil h2).mono ?_
      rintro e w3 ⟨C, rfl, hC, b3⟩
      have hb4 := bTrans hb b3
      have hCn := Lib.hid (hC.small HL.out hil)
      clear h2 t2 e0 e1 b3 hb
      by_cases hBC : B < C
      · have g1 : (B : Int) < (C : Int) := by omega
        have Q2 := Q.step hil hC (x := C) (by omega)
        clear Q
        go_wp2_with fail
        go_roundw
        case rel => exact ⟨i + 1, C, by omega, by go_num, rfl, hCn.out, hb4, Q2⟩
        case measure => simp [intOf]; omega
      · have g1 : ¬ (B : Int) < (C : Int) := by omega
        have Q2 := Q.step hil hC (x := B) (by omega)
        clear Q
        go_wp2_with fail
        go_roundw
        case rel => exact ⟨i + 1, B, by omega, by go_num, rfl, hBn, hb4, Q2⟩
        case measure => simp [intOf]; omega
    · obtain rfl : i = n := by omega
      have HR := Lib.hid (Q.done H0.out)
      have hbel := bTrans b0 hb
      clear Q
      go_wp2_with fail
      go_ret
      exact ⟨B, rfl, HR.out, hbel⟩
end Go.Proofs.Ytcckocaaoklibaa
