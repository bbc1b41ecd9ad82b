/- Walks: split, join, Of, Small; the reference's Of, Small. -/
import Derived.Test.YtmhfdmidaheoeaaDoorWf
import Derived.Test.YtmhfdmidaheoeaaDoorT3
namespace Go.Proofs.YtmhfdmidaheoeaaDoor
open Go.RowKit
set_option linter.unusedVariables false

theorem two_words {lo hi : Nat} {w : World} (hl : lo < 4294967296) (hh : hi < 4294967296) : Sl (w.alloc (.cells #[.int .u32 (lo : Int), .int .u32 (hi : Int)] 39)) (w.alloc (.cells #[.int .u32 (lo : Int), .int .u32 (hi : Int)] 39)).heap.size (some ⟨w.heap.size, 0, none⟩) 2 [lo, hi] :=
  ⟨(Blk.new_ .u32 39 w [lo, hi]).nums (by simp), Kn.Wd.cons hl (Kn.Wd.cons hh Kn.Wd.nil), by simp, fun e => by cases e⟩
theorem val_two (lo hi : Nat) : Kn.val [lo, hi] = lo + 4294967296 * hi := by simp [Kn.val]

set_option maxHeartbeats 400000 in
theorem split_any (n : Nat) (hn : Hid (n < 18446744073709551616)) (w : World) : Calls Tryd.prog 43 #[.int .u64 (n : Int)] w (MagRes n w) := by
  obtain ⟨lo, hlo⟩ : ∃ lo, lo = n % 4294967296 := ⟨_, rfl⟩
  obtain ⟨hi, hhi⟩ : ∃ hi, hi = n / 4294967296 := ⟨_, rfl⟩
  have l1 : lo < 4294967296 := by omega
  have l2 : hi < 4294967296 := by have := hn.out; omega
  have e1 : (n : Int) % 4294967296 = (lo : Int) := by omega
  have e2 : (n : Int) / 4294967296 = (hi : Int) := by omega
  have e3 : (hi : Int) % 4294967296 = (hi : Int) := by omega
  have HV : Hid (Kn.val [lo, hi] = n) := Lib.hid (by rw [val_two]; omega)
  have HT : Hid (∀ (W : World) (A : Option Addr), Sl W W.heap.size A 2 [lo, hi] → Calls Tryd.prog 25 #[.slice A 2 2] W fun e w' => e = .returned (.slice A (Kn.dig n).length 2) ∧ W = w') := Lib.hid (fun W A h => by
    have := trim_any A 2 [lo, hi] W _ h (by simp)
    rwa [HV.out] at this)
  have hS := two_words (w := w) l1 l2
  have H1 := Lib.hid hlo
  have H2 := Lib.hid hhi
  clear hlo hhi
  go_enter Tryd.func43, Tryd.ntmps43
  go_wp2_with fail
  refine (HT.out _ _ hS).mono ?_
  rintro e w' ⟨rfl, rfl⟩
  go_wp2_with fail
  go_ret
  refine ⟨_, _, rfl, ?_, al1 _ _⟩
  have := hS.trim
  rw [HV.out] at this
  exact this

set_option maxRecDepth 100000 in
set_option maxHeartbeats 1000000 in
theorem of_any (n : Int) (h0 : Hid (-9223372036854775808 ≤ n)) (h1 : Hid (n ≤ 9223372036854775807)) (w : World) : Calls Tryd.prog 20 #[.int .i64 n] w (IntRes n w) := by
  obtain ⟨m, hm⟩ : ∃ m : Nat, Hid (m = n.natAbs) := ⟨_, Lib.hid rfl⟩
  have hml : Hid (m < 18446744073709551616) := Lib.hid (by rw [hm.out]; have := h0.out; have := h1.out; omega)
  have hdl : (Kn.dig m).length ≤ 2 := Kn.dig_len_le (by have := hml.out; show m < 4294967296 ^ 2; omega)
  have HG : Hid (∀ (W : World) (A : Option Addr) (c : Nat), Sl W W.heap.size A c (Kn.dig m) → Calls Tryd.prog 29 #[.bool (decide (n < 0)), .slice A (Kn.dig m).length c] W (IntRes n W)) := Lib.hid (fun W A c h => by
    have := signed_any (decide (n < 0)) A c (Kn.dig m) W h (by omega)
    rwa [hm.out, Kn.iv_dig, ← hm.out] at this)
  by_cases hneg : n < 0
  · have e1 : IntKind.u64.wrap (-(IntKind.u64.wrap n)) = (m : Int) := by rw [IntKind.wrap_u64, IntKind.wrap_u64, hm.out]; have := h0.out; omega
    rw [decide_eq_true hneg] at HG
    go_enter Tryd.func20, Tryd.ntmps20
    go_wp2_with fail
    refine (split_any m hml _).mono ?_
    rintro e w2 ⟨A2, c2, rfl, hS, hb⟩
    have t : Two w2 w.heap.size (.bool false) (.slice none 0 0) := (Two.new_ _ _ _ _).below hb (by simp)
    have hB : Below w.heap.size w w2 := ((Below.refl _ _).alloc (Nat.le_refl _) _).trans (hb.mono (by simp))
    go_wp2_with fail
    refine (HG.out _ _ _ hS).mono ?_
    rintro e w3 ⟨A3, c3, rfl, hS3, hb3⟩
    replace t := t.below hb3 t.lt
    replace hB := hB.trans (hb3.mono hB.size)
    have d20 := t.c0
    have d21 := t.c1
    have f20 := t.fr 0
    have f21 := t.fr 1
    have R := Lib.hid (two_set w3 (.bool (decide (n < 0))) (.slice A3 (Kn.dig n.natAbs).length c3) d20 d21)
    have HF : Hid (IntRes n w (.returned (.agg #[.bool (decide (n < 0)), .slice A3 (Kn.dig n.natAbs).length c3])) ((w3.setCell ⟨w.heap.size, 0, none⟩ (.bool (decide (n < 0)))).setCell ⟨w.heap.size, 1, none⟩ (.slice A3 (Kn.dig n.natAbs).length c3))) := Lib.hid
      ⟨A3, c3, rfl, (hS3.put t _ _).more (by simp [World.setCell]), (hB.setCell (p := ⟨w.heap.size, 0, none⟩) (Nat.le_refl _) _).setCell (p := ⟨w.heap.size, 1, none⟩) (Nat.le_refl _) _⟩
    rw [decide_eq_true hneg] at R HF ⊢
    have HN := Lib.hid hneg
    clear hneg
    go_wp2_with fail
    obtain ⟨r0, r1⟩ := R.out
    refine bodyPost_ret (v := .agg #[.bool true, .slice A3 (Kn.dig n.natAbs).length c3]) (by simp [results, Tryd.results20, go_sem, r0, r1]) rfl ?_
    exact HF.out
  · have e1 : IntKind.u64.wrap n = (m : Int) := by rw [IntKind.wrap_u64, hm.out]; have := h1.out; omega
    rw [decide_eq_false hneg] at HG
    go_enter Tryd.func20, Tryd.ntmps20
    go_wp2_with fail
    refine (split_any m hml _).mono ?_
    rintro e w2 ⟨A2, c2, rfl, hS, hb⟩
    have t : Two w2 w.heap.size (.bool false) (.slice none 0 0) := (Two.new_ _ _ _ _).below hb (by simp)
    have hB : Below w.heap.size w w2 := ((Below.refl _ _).alloc (Nat.le_refl _) _).trans (hb.mono (by simp))
    go_wp2_with fail
    refine (HG.out _ _ _ hS).mono ?_
    rintro e w3 ⟨A3, c3, rfl, hS3, hb3⟩
    replace t := t.below hb3 t.lt
    replace hB := hB.trans (hb3.mono hB.size)
    have d20 := t.c0
    have d21 := t.c1
    have f20 := t.fr 0
    have f21 := t.fr 1
    have R := Lib.hid (two_set w3 (.bool (decide (n < 0))) (.slice A3 (Kn.dig n.natAbs).length c3) d20 d21)
    have HF : Hid (IntRes n w (.returned (.agg #[.bool (decide (n < 0)), .slice A3 (Kn.dig n.natAbs).length c3])) ((w3.setCell ⟨w.heap.size, 0, none⟩ (.bool (decide (n < 0)))).setCell ⟨w.heap.size, 1, none⟩ (.slice A3 (Kn.dig n.natAbs).length c3))) := Lib.hid
      ⟨A3, c3, rfl, (hS3.put t _ _).more (by simp [World.setCell]), (hB.setCell (p := ⟨w.heap.size, 0, none⟩) (Nat.le_refl _) _).setCell (p := ⟨w.heap.size, 1, none⟩) (Nat.le_refl _) _⟩
    rw [decide_eq_false (show ¬ n < 0 by omega)] at R HF ⊢
    have HN := Lib.hid hneg
    clear hneg
    go_wp2_with fail
    obtain ⟨r0, r1⟩ := R.out
    refine bodyPost_ret (v := .agg #[.bool false, .slice A3 (Kn.dig n.natAbs).length c3]) (by simp [results, Tryd.results20, go_sem, r0, r1]) rfl ?_
    exact HF.out

set_option maxRecDepth 100000 in
set_option maxHeartbeats 1000000 in
theorem rof_any (n : Int) (h0 : Hid (-9223372036854775808 ≤ n)) (h1 : Hid (n ≤ 9223372036854775807)) (w : World) : Calls Tryd.prog 34 #[.int .i64 n] w (IntRes n w) := by
  obtain ⟨m, hm⟩ : ∃ m : Nat, Hid (m = n.natAbs) := ⟨_, Lib.hid rfl⟩
  have hml : Hid (m < 18446744073709551616) := Lib.hid (by rw [hm.out]; have := h0.out; have := h1.out; omega)
  obtain ⟨lo, hlo⟩ : ∃ lo, lo = m % 4294967296 := ⟨_, rfl⟩
  obtain ⟨hi, hhi⟩ : ∃ hi, hi = m / 4294967296 := ⟨_, rfl⟩
  have l1 : lo < 4294967296 := by omega
  have l2 : hi < 4294967296 := by have := hml.out; omega
  have e1 : (m : Int) % 4294967296 = (lo : Int) := by omega
  have e2 : (m : Int) / 4294967296 = (hi : Int) := by omega
  have e3 : (hi : Int) % 4294967296 = (hi : Int) := by omega
  have HV : Hid (Kn.val [lo, hi] = m) := Lib.hid (by rw [val_two]; omega)
  have hziv : Hid (Kn.iv (decide (n < 0)) [lo, hi] = n) := Lib.hid (by
    unfold Kn.iv; rw [HV.out, hm.out]; by_cases h : n < 0 <;> simp [h] <;> omega)
  have HG : Hid (∀ (W : World) (A : Option Addr), Sl W W.heap.size A 2 [lo, hi] → Calls Tryd.prog 32 #[.bool (decide (n < 0)), .slice A 2 2] W (IntRes n W)) := Lib.hid (fun W A h => by
    have := made_any (decide (n < 0)) A 2 [lo, hi] W h (by simp)
    rwa [hziv.out] at this)
  have H1 := Lib.hid hlo
  have H2 := Lib.hid hhi
  clear hlo hhi
  by_cases hneg : n < 0
  · have hng : True := trivial
    have e4 : IntKind.u64.wrap (IntKind.u64.wrap (wrap64 (-wrap64 (n + 1))) + 1) = (m : Int) := by rw [IntKind.wrap_u64, IntKind.wrap_u64, hm.out]; unfold wrap64; have := h0.out; omega
    rw [decide_eq_true hneg] at HG
    go_enter Tryd.func34, Tryd.ntmps34
    go_wp2_with fail
    have t : Two (w.alloc (.cells #[.bool false, .slice none 0 0] 24)) w.heap.size (.bool false) (.slice none 0 0) := Two.new_ _ _ _ _
    have hB := al1 w (.cells #[.bool false, .slice none 0 0] 24)
    have hS := two_words (w := w.alloc (.cells #[.bool false, .slice none 0 0] 24)) l1 l2
    have ez : (w.alloc (.cells #[.bool false, .slice none 0 0] 24)).heap.size = w.heap.size + 1 := by simp
    rw [ez] at hS
    replace t := t.alloc (.cells #[.int .u32 (lo : Int), .int .u32 (hi : Int)] 39)
    replace hB := hB.alloc hB.size (.cells #[.int .u32 (lo : Int), .int .u32 (hi : Int)] 39)
    refine (HG.out _ _ hS).mono ?_
    rintro e w3 ⟨A3, c3, rfl, hS3, hb3⟩
    replace t := t.below hb3 t.lt
    replace hB := hB.trans (hb3.mono hB.size)
    clear hS ez hb3
    have d20 := t.c0
    have d21 := t.c1
    have f20 := t.fr 0
    have f21 := t.fr 1
    have R := Lib.hid (two_set w3 (.bool (decide (n < 0))) (.slice A3 (Kn.dig n.natAbs).length c3) d20 d21)
    have HF : Hid (IntRes n w (.returned (.agg #[.bool (decide (n < 0)), .slice A3 (Kn.dig n.natAbs).length c3])) ((w3.setCell ⟨w.heap.size, 0, none⟩ (.bool (decide (n < 0)))).setCell ⟨w.heap.size, 1, none⟩ (.slice A3 (Kn.dig n.natAbs).length c3))) := Lib.hid
      ⟨A3, c3, rfl, (hS3.put t _ _).more (by simp [World.setCell]), (hB.setCell (p := ⟨w.heap.size, 0, none⟩) (Nat.le_refl _) _).setCell (p := ⟨w.heap.size, 1, none⟩) (Nat.le_refl _) _⟩
    rw [decide_eq_true hneg] at R HF ⊢
    have HN := Lib.hid hneg
    clear hneg
    go_wp2_with fail
    obtain ⟨r0, r1⟩ := R.out
    refine bodyPost_ret (v := .agg #[.bool true, .slice A3 (Kn.dig n.natAbs).length c3]) (by simp [results, Tryd.results34, go_sem, r0, r1]) rfl ?_
    exact HF.out
  · have hng : True := trivial
    have e4 : IntKind.u64.wrap n = (m : Int) := by rw [IntKind.wrap_u64, hm.out]; have := h1.out; omega
    rw [decide_eq_false (show ¬ n < 0 by omega)] at HG
    go_enter Tryd.func34, Tryd.ntmps34
    go_wp2_with fail
    have t : Two (w.alloc (.cells #[.bool false, .slice none 0 0] 24)) w.heap.size (.bool false) (.slice none 0 0) := Two.new_ _ _ _ _
    have hB := al1 w (.cells #[.bool false, .slice none 0 0] 24)
    have hS := two_words (w := w.alloc (.cells #[.bool false, .slice none 0 0] 24)) l1 l2
    have ez : (w.alloc (.cells #[.bool false, .slice none 0 0] 24)).heap.size = w.heap.size + 1 := by simp
    rw [ez] at hS
    replace t := t.alloc (.cells #[.int .u32 (lo : Int), .int .u32 (hi : Int)] 39)
    replace hB := hB.alloc hB.size (.cells #[.int .u32 (lo : Int), .int .u32 (hi : Int)] 39)
    refine (HG.out _ _ hS).mono ?_
    rintro e w3 ⟨A3, c3, rfl, hS3, hb3⟩
    replace t := t.below hb3 t.lt
    replace hB := hB.trans (hb3.mono hB.size)
    clear hS ez hb3
    have d20 := t.c0
    have d21 := t.c1
    have f20 := t.fr 0
    have f21 := t.fr 1
    have R := Lib.hid (two_set w3 (.bool (decide (n < 0))) (.slice A3 (Kn.dig n.natAbs).length c3) d20 d21)
    have HF : Hid (IntRes n w (.returned (.agg #[.bool (decide (n < 0)), .slice A3 (Kn.dig n.natAbs).length c3])) ((w3.setCell ⟨w.heap.size, 0, none⟩ (.bool (decide (n < 0)))).setCell ⟨w.heap.size, 1, none⟩ (.slice A3 (Kn.dig n.natAbs).length c3))) := Lib.hid
      ⟨A3, c3, rfl, (hS3.put t _ _).more (by simp [World.setCell]), (hB.setCell (p := ⟨w.heap.size, 0, none⟩) (Nat.le_refl _) _).setCell (p := ⟨w.heap.size, 1, none⟩) (Nat.le_refl _) _⟩
    rw [decide_eq_false (show ¬ n < 0 by omega)] at R HF ⊢
    have HN := Lib.hid hneg
    clear hneg
    go_wp2_with fail
    obtain ⟨r0, r1⟩ := R.out
    refine bodyPost_ret (v := .agg #[.bool false, .slice A3 (Kn.dig n.natAbs).length c3]) (by simp [results, Tryd.results34, go_sem, r0, r1]) rfl ?_
    exact HF.out

set_option maxRecDepth 100000 in
set_option maxHeartbeats 1000000 in
theorem join_any (A : Option Addr) (c : Nat) (ws : List Nat) (w : World) (B : Nat) (h : Sl w B A c ws) (hl : ws.length ≤ 2) :
    Calls Tryd.prog 70 #[.slice A ws.length c] w fun e w' => e = .returned (.int .u64 (Kn.val ws : Nat)) ∧ w = w' := by
  obtain ⟨V, hV⟩ : ∃ V, Hid (V = Kn.val ws) := ⟨_, Lib.hid rfl⟩
  rw [← hV.out]
  go_enter Tryd.func70, Tryd.ntmps70
  go_wp2_with fail
  go_loop [3, 8] (fun nv iv => ∃ k n : Nat, k ≤ ws.length ∧ iv = .int .i64 (k : Nat) ∧ nv = .int .u64 (n : Nat) ∧ Hid (n = Kn.val (ws.take k))) (fun _ iv => ws.length - (intOf iv).toNat)
  case atStart => exact ⟨0, 0, Nat.zero_le _, rfl, rfl, Lib.hid (by simp [Kn.val])⟩
  case round =>
    obtain ⟨k, n, hk, rfl, rfl, HN⟩ := hrel
    by_cases hlt : k < ws.length
    · obtain ⟨b, off, x, rfl, hb, hc, hx, hxl⟩ := h.word hlt
      have hs := Kn.val_take_step ws k
      rw [← hx.out, ← HN.out] at hs
      have hnl : Hid (n < Kn.pw k) := Lib.hid (by rw [HN.out]; exact Kn.val_take_lt h.wd k)
      rcases (show k = 0 ∨ k = 1 by omega) with hk0 | hk1
      · subst hk0
        rw [Nat.add_zero] at hc
        have n0 : n = 0 := by have := hnl.out; rw [Kn.pw_zero] at this; omega
        subst n0
        have HN2 : Hid (x = Kn.val (ws.take (0 + 1))) := Lib.hid (by rw [hs, Kn.pw_zero]; omega)
        clear hs
        have EO : bits BinOp.or IntKind.u64 0 (x : Int) = (x : Int) := by have := or_any 0 x (by decide) (by omega); rw [Nat.zero_or] at this; exact this
        go_wp2_with fail
        go_round
        case rel => exact ⟨1, x, by omega, rfl, rfl, HN2⟩
        case measure => simp [intOf]; omega
      · subst hk1
        obtain ⟨y, hy⟩ : ∃ y : Nat, Hid (y = n + x * 4294967296) := ⟨_, Lib.hid rfl⟩
        have HN2 : Hid (y = Kn.val (ws.take (1 + 1))) := Lib.hid (by rw [hs, hy.out, show Kn.pw 1 = 4294967296 from rfl]; omega)
        have EO : Hid (bits BinOp.or IntKind.u64 (n : Int) ((x : Int) * 4294967296) = (y : Int)) := Lib.hid (by
          have hn := hnl.out
          rw [show Kn.pw 1 = 4294967296 from rfl] at hn
          have := or_any n (x * 4294967296) (by omega) (by omega)
          rw [Int.natCast_mul] at this
          rw [show ((4294967296 : Nat) : Int) = 4294967296 from rfl] at this
          rw [this, hy.out]
          congr 1
          have h2 := Nat.shiftLeft_add_eq_or_of_lt (i := 32) (show n < 2 ^ 32 by omega) x
          rw [Nat.shiftLeft_eq] at h2
          rw [Nat.or_comm, ← h2]; omega)
        have hw : IntKind.u64.wrap ((x : Int) * 4294967296) = (x : Int) * 4294967296 := by rw [IntKind.wrap_u64]; omega
        clear hs
        go_wp2_with fail
        rw [EO.out]
        go_round
        case rel => exact ⟨2, y, by omega, rfl, rfl, HN2⟩
        case measure => simp [intOf]; omega
    · have HF : Hid (n = V) := Lib.hid (by rw [hV.out, HN.out, List.take_of_length_le (by omega)])
      go_wp2_with fail
      go_ret
      exact ⟨ret_int (by rw [HF.out]), rfl⟩
end Go.Proofs.YtmhfdmidaheoeaaDoor
