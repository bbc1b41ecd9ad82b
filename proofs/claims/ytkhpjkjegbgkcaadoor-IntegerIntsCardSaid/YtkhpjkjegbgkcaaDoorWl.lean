/- Walks: the reference's Small. -/
import Derived.Test.YtkhpjkjegbgkcaaDoorWj
namespace Go.Proofs.YtkhpjkjegbgkcaaDoor
open Go.RowKit
set_option linter.unusedVariables false

theorem conv_i64 (n : Nat) (h : n ≤ 9223372036854775807) (W : World) : (convert 57 3 (.int .u64 (n : Int))).run Tryd.prog W = .ok (.int .i64 (n : Int)) W := by
  have h := run_convert_int (P := Tryd.prog) W 57 3 .u64 (n : Int) (by kernel_rfl) (by kernel_rfl)
  rw [show Tryd.prog.intKind 3 = .i64 by kernel_rfl] at h
  have e : IntKind.i64.wrap (n : Int) = (n : Int) := by rw [IntKind.wrap_i64]; omega
  rw [e] at h
  exact h

set_option maxRecDepth 100000 in
set_option maxHeartbeats 1000000 in
theorem rsmall_any (neg : Bool) (A : Option Addr) (c : Nat) (ws : List Nat) (w : World) (h : Sl w w.heap.size A c ws) (hl : ws.length ≤ 1000000) (S : Int) (F : Bool) (hS : Hid (S = smI (Kn.iv neg ws))) (hF : Hid (F = smB (Kn.iv neg ws))) :
    Calls Tryd.prog 31 #[intV neg A ws.length c] w fun e w' => e = .returned (.tuple #[.int .i64 S, .bool F]) ∧ Below w.heap.size w w' := by
  obtain ⟨M, hM⟩ : ∃ M, Hid (M = Kn.val ws) := ⟨_, Lib.hid rfl⟩
  obtain ⟨l, hL⟩ : ∃ l, Hid (l = Kn.dig M) := ⟨_, Lib.hid rfl⟩
  have hlM : Hid (Kn.val l = M) := Lib.hid (by rw [hL.out, Kn.val_dig])
  have HT : Hid (∀ W, Sl W W.heap.size A c ws → Calls Tryd.prog 60 #[.slice A ws.length c] W fun e w' => ∃ A' c', e = .returned (.slice A' l.length c') ∧ Sl w' w'.heap.size A' c' l ∧ Below W.heap.size W w') := Lib.hid (fun W h => by
    have := rtrim_any A c ws W h (by omega)
    rw [← hM.out] at this
    unfold MagRes at this
    rw [← hL.out] at this
    exact this)
  have hX := (h.alloc (Nat.le_refl _) (.cells #[.bool neg, .slice A ws.length c] 24)).more (B' := (w.alloc (.cells #[.bool neg, .slice A ws.length c] 24)).heap.size) (by simp)
  have t0 := Two.new_ w (.bool neg) (.slice A ws.length c) 24
  have hB0 := al1 w (.cells #[.bool neg, .slice A ws.length c] 24)
  unfold intV
  go_enter Tryd.func31, Tryd.ntmps31
  go_wp2_with fail
  refine (HT.out _ hX).mono ?_
  rintro e w2 ⟨A2, c2, rfl, hD, hb⟩
  have t1 := t0.below hb (by simp)
  have hB : Below w.heap.size w w2 := hB0.trans (hb.mono (by simp))
  clear hX t0 hB0 hb
  have c10 := t1.c0
  rcases Nat.lt_or_ge 2 l.length with hm2 | hm2
  · have hbig : Hid (¬ (-9223372036854775808 ≤ Kn.iv neg ws ∧ Kn.iv neg ws ≤ 9223372036854775807)) := Lib.hid (by
      have := big_val (l := ws) (by rw [← hM.out, ← hL.out]; exact hm2)
      unfold Kn.iv; cases neg <;> simp <;> omega)
    have e1 : Hid (S = 0) := Lib.hid (by rw [hS.out]; exact (sm_no hbig.out).1)
    have e2 : Hid (F = false) := Lib.hid (by rw [hF.out]; exact (sm_no hbig.out).2)
    go_wp2_with fail
    go_ret2
    exact ⟨by rw [e1.out, e2.out]; rfl, hB⟩
  · have hMl : Hid (M < 18446744073709551616) := Lib.hid (small_val (by rw [← hL.out]; exact hm2))
    go_wp2_with fail
    go_loop [5, 6] (fun uv iv => ∃ k u : Nat, k ≤ l.length ∧ iv = .int .i64 ((k : Int) - 1) ∧ uv = .int .u64 (u : Nat) ∧ Hid (u = Kn.val (l.drop k))) (fun _ iv => (intOf iv + 1).toNat)
    case atStart => exact ⟨l.length, 0, Nat.le_refl _, rfl, rfl, Lib.hid (by rw [List.drop_of_length_le (Nat.le_refl _)]; rfl)⟩
    case round =>
      obtain ⟨k, u, hk, rfl, rfl, HU⟩ := hrel
      by_cases hk0 : k = 0
      · subst hk0
        obtain rfl : u = M := by have := HU.out; rw [List.drop_zero] at this; rw [this, hlM.out]
        cases neg
        · have hz : Hid (Kn.iv false ws = (u : Int)) := Lib.hid (by unfold Kn.iv; rw [hM.out]; simp)
          by_cases hc : 9223372036854775807 < (u : Int)
          · have e1 : Hid (S = 0) := Lib.hid (by rw [hS.out, hz.out]; exact (sm_no (by omega)).1)
            have e2 : Hid (F = false) := Lib.hid (by rw [hF.out, hz.out]; exact (sm_no (by omega)).2)
            have hd : binOp .gtr 57 (.int .u64 (u : Int)) (.int .u64 9223372036854775807) = (pure (.bool true) : Sem Value) := by rw [binOp_gtr, decide_eq_true hc]
            clear hc
            go_wp2_with fail
            go_ret2
            exact ⟨by rw [e1.out, e2.out]; rfl, hB⟩
          · have e1 : Hid (S = (u : Int)) := Lib.hid (by rw [hS.out, hz.out]; exact (sm_yes (by omega)).1)
            have e2 : Hid (F = true) := Lib.hid (by rw [hF.out, hz.out]; exact (sm_yes (by omega)).2)
            have hd : binOp .gtr 57 (.int .u64 (u : Int)) (.int .u64 9223372036854775807) = (pure (.bool false) : Sem Value) := by rw [binOp_gtr, decide_eq_false hc]
            have hcv := conv_i64 u (by omega)
            clear hc
            go_wp2_with fail
            go_ret2
            exact ⟨by rw [e1.out, e2.out]; rfl, hB⟩
        · have hz : Hid (Kn.iv true ws = -(u : Int)) := Lib.hid (by unfold Kn.iv; rw [hM.out]; simp)
          by_cases hc : 9223372036854775808 < (u : Int)
          · have e1 : Hid (S = 0) := Lib.hid (by rw [hS.out, hz.out]; exact (sm_no (by omega)).1)
            have e2 : Hid (F = false) := Lib.hid (by rw [hF.out, hz.out]; exact (sm_no (by omega)).2)
            have hd : binOp .gtr 57 (.int .u64 (u : Int)) (.int .u64 9223372036854775808) = (pure (.bool true) : Sem Value) := by rw [binOp_gtr, decide_eq_true hc]
            clear hc
            go_wp2_with fail
            go_ret2
            exact ⟨by rw [e1.out, e2.out]; rfl, hB⟩
          · have e1 : Hid (S = -(u : Int)) := Lib.hid (by rw [hS.out, hz.out]; exact (sm_yes (by omega)).1)
            have e2 : Hid (F = true) := Lib.hid (by rw [hF.out, hz.out]; exact (sm_yes (by omega)).2)
            have hd : binOp .gtr 57 (.int .u64 (u : Int)) (.int .u64 9223372036854775808) = (pure (.bool false) : Sem Value) := by rw [binOp_gtr, decide_eq_false hc]
            by_cases hu0 : u = 0
            · have hu1 : ((u : Int) == 0) = true := by simp [hu0]
              have e3 : Hid (S = 0) := Lib.hid (by rw [e1.out, hu0]; rfl)
              clear hc hu0
              go_wp2_with fail
              go_ret2
              exact ⟨by rw [e3.out, e2.out]; rfl, hB⟩
            · have hu1 : ((u : Int) == 0) = false := by simp; omega
              obtain ⟨t, ht⟩ : ∃ t : Nat, t = u - 1 := ⟨_, rfl⟩
              have hcv := conv_i64 t (by omega)
              have es : IntKind.u64.wrap ((u : Int) - 1) = (t : Int) := by rw [IntKind.wrap_u64]; omega
              have hup : 0 < u := by omega
              have es2 : (u : Int) - 1 = (t : Int) := by omega
              have EN : Hid (wrap64 (wrap64 (-wrap64 (IntKind.u64.wrap (t : Int))) - 1) = S) := Lib.hid (by rw [IntKind.wrap_u64]; unfold wrap64; rw [e1.out]; omega)
              clear hc hu0 ht
              go_wp2_with fail
              go_ret2
              refine ⟨?_, hB⟩
              rw [e2.out]
              show Ending.returned (.tuple #[.int .i64 (wrap64 (wrap64 (-wrap64 (IntKind.u64.wrap (t : Int))) - 1)), .bool true]) = _
              rw [EN.out]
      · have hk1 : 0 < k := by omega
        obtain ⟨b, off, x, rfl, hbb, hc, hx, hxl⟩ := hD.word (k := k - 1) (by omega)
        have e1 : ((k : Int) - 1).toNat = k - 1 := by omega
        have e2 : (0 : Int) ≤ (k : Int) - 1 := by omega
        obtain ⟨v, hv⟩ : ∃ v : Nat, v = u * 4294967296 + x := ⟨_, rfl⟩
        have HV : Hid (v = Kn.val (l.drop (k - 1))) := Lib.hid (by
          rw [Kn.drop_cons l (k := k - 1) (by omega), Kn.val_cons, Nat.sub_add_cancel hk1, ← HU.out, hv, hx.out]; omega)
        have hvl : Hid (v < 18446744073709551616) := Lib.hid (by
          rw [HV.out]
          have h1 := Kn.val_lt (hD.wd.drop (k - 1))
          have h2 := Kn.pw_mono (i := (l.drop (k - 1)).length) (j := 2) (by rw [List.length_drop]; omega)
          have h3 : Kn.pw 2 = 18446744073709551616 := by decide
          omega)
        obtain ⟨y, hy⟩ : ∃ y : Nat, y = u * 4294967296 := ⟨_, rfl⟩
        have f1 : IntKind.u64.wrap ((u : Int) * 4294967296) = (y : Int) := by rw [IntKind.wrap_u64]; have := hvl.out; omega
        have f2 : IntKind.u64.wrap ((y : Int) + (x : Int)) = (v : Int) := by rw [IntKind.wrap_u64]; have := hvl.out; omega
        have HV2 := Lib.hid hv
        have HY := Lib.hid hy
        clear hk0 hv hy
        go_wp2_with fail
        go_round
        case rel => exact ⟨k - 1, v, by omega, by go_num, rfl, HV⟩
        case measure => simp [intOf]; omega
end Go.Proofs.YtkhpjkjegbgkcaaDoor
