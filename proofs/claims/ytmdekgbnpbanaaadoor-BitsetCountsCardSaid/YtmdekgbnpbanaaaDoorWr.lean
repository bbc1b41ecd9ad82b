/- Walks: OnesCount64 and Count, exactly. -/
import Derived.Test.YtmdekgbnpbanaaaDoorPop
import Derived.Test.YtmdekgbnpbanaaaDoorW9
namespace Go.Proofs.YtmdekgbnpbanaaaDoor
open Go.RowKit
set_option linter.unusedVariables false

theorem and127_nat (c : Nat) (hc : c < 2 ^ 61) : bits BinOp.and .i64 (c : Int) 127 = ((c % 128 : Nat) : Int) := by
  show IntKind.i64.wrap ((BitVec.ofInt 64 (c : Int) &&& BitVec.ofInt 64 127).toNat : Int) = _
  rw [show BitVec.ofInt 64 127 = 127#64 from rfl, BitVec.toNat_and, BitVec.ofInt_natCast, BitVec.toNat_ofNat, show (127#64 : BitVec 64).toNat = 2 ^ 7 - 1 from rfl, Nat.and_two_pow_sub_one_eq_mod, IntKind.wrap_i64]
  omega

set_option maxRecDepth 100000 in
set_option maxHeartbeats 400000 in
theorem ones_ok (x : Nat) (hx : x < 2 ^ 64) (w : World) :
    Calls Tryd.prog 58 #[.int .u64 (x : Int)] w fun e w' => e = .returned (.int .i64 ((Kb.cnt x.testBit 64 : Nat) : Int)) ∧ w = w' := by
  go_enter Tryd.func58, Tryd.ntmps58
  go_wp2_with fail
  go_ret
  refine ⟨ret_int ?_, rfl⟩
  obtain ⟨y1, h1⟩ : ∃ y1, y1 = (x / 2 &&& 6148914691236517205) + (x &&& 6148914691236517205) := ⟨_, rfl⟩
  obtain ⟨y2, h2⟩ : ∃ y2, y2 = (y1 / 4 &&& 3689348814741910323) + (y1 &&& 3689348814741910323) := ⟨_, rfl⟩
  obtain ⟨y3, h3⟩ : ∃ y3, y3 = (y2 / 16 + y2) &&& 1085102592571150095 := ⟨_, rfl⟩
  obtain ⟨a, ha⟩ : ∃ a, a = y3 + y3 / 256 := ⟨_, rfl⟩
  obtain ⟨b, hb⟩ : ∃ b, b = a + a / 65536 := ⟨_, rfl⟩
  obtain ⟨c, hc⟩ : ∃ c, c = b + b / 4294967296 := ⟨_, rfl⟩
  obtain ⟨bd1, bd2, bd3⟩ := Kb.y_bounds x y1 y2 h1 h2
  obtain ⟨N, na, nb, nc⟩ := Kb.ones_nat x y1 y2 y3 a b c hx h1 h2 h3 ha hb hc
  have e1 : bits BinOp.and IntKind.u64 ((x : Int) / 2) 6148914691236517205 = ((x / 2 &&& 6148914691236517205 : Nat) : Int) := by
    rw [show (x : Int) / 2 = ((x / 2 : Nat) : Int) by omega]; exact u64_and_nat _ _ (by omega) (by decide)
  have e2 : bits BinOp.and IntKind.u64 (x : Int) 6148914691236517205 = ((x &&& 6148914691236517205 : Nat) : Int) := u64_and_nat _ _ hx (by decide)
  have e3 : IntKind.u64.wrap (((x / 2 &&& 6148914691236517205 : Nat) : Int) + ((x &&& 6148914691236517205 : Nat) : Int)) = (y1 : Int) := by
    rw [← Int.natCast_add, ← h1]; exact wrap_nat bd1
  have e4 : bits BinOp.and IntKind.u64 ((y1 : Int) / 4) 3689348814741910323 = ((y1 / 4 &&& 3689348814741910323 : Nat) : Int) := by
    rw [show (y1 : Int) / 4 = ((y1 / 4 : Nat) : Int) by omega]; exact u64_and_nat _ _ (by omega) (by decide)
  have e5 : bits BinOp.and IntKind.u64 (y1 : Int) 3689348814741910323 = ((y1 &&& 3689348814741910323 : Nat) : Int) := u64_and_nat _ _ bd1 (by decide)
  have e6 : IntKind.u64.wrap (((y1 / 4 &&& 3689348814741910323 : Nat) : Int) + ((y1 &&& 3689348814741910323 : Nat) : Int)) = (y2 : Int) := by
    rw [← Int.natCast_add, ← h2]; exact wrap_nat (by omega)
  have e7 : IntKind.u64.wrap ((y2 : Int) / 16 + (y2 : Int)) = ((y2 / 16 + y2 : Nat) : Int) := by
    rw [show (y2 : Int) / 16 + (y2 : Int) = ((y2 / 16 + y2 : Nat) : Int) by omega]; exact wrap_nat bd3
  have e8 : bits BinOp.and IntKind.u64 ((y2 / 16 + y2 : Nat) : Int) 1085102592571150095 = (y3 : Int) := by
    rw [h3]; exact u64_and_nat _ _ bd3 (by decide)
  have e9 : IntKind.u64.wrap ((y3 : Int) + (y3 : Int) / 256) = (a : Int) := by
    rw [show (y3 : Int) + (y3 : Int) / 256 = (a : Int) by omega]; exact wrap_nat (by omega)
  have e10 : IntKind.u64.wrap ((a : Int) + (a : Int) / 65536) = (b : Int) := by
    rw [show (a : Int) + (a : Int) / 65536 = (b : Int) by omega]; exact wrap_nat (by omega)
  have e11 : IntKind.u64.wrap ((b : Int) + (b : Int) / 4294967296) = (c : Int) := by
    rw [show (b : Int) + (b : Int) / 4294967296 = (c : Int) by omega]; exact wrap_nat (by omega)
  rw [e1, e2, e3, e4, e5, e6, e7, e8, e9, e10, e11, ← N, show wrap64 (c : Int) = (c : Int) by first | omega | (unfold wrap64; omega)]
  exact and127_nat c nc

set_option maxRecDepth 100000 in
set_option maxHeartbeats 400000 in
theorem count_ex (n : Nat) (A : Option Addr) (c : Nat) (ws : List Nat) (w : World) (h : Words w w.heap.size A ws) (hok : Kb.Ok n ws) (hn : n ≤ 4096) :
    Calls Tryd.prog 37 #[setV n A ws.length c] w fun e w' => e = .returned (.int .i64 ((Kb.cnt (Kb.bitAt ws) n : Nat) : Int)) ∧ Below w.heap.size w w' := by
  have hl : ws.length ≤ 64 := by rw [hok.len]; unfold Kb.nw; omega
  have hv : Hid (Kb.validB n ws = true) := Lib.hid ((Kb.validB_iff h.lt).2 ⟨by omega, by omega, hok⟩)
  unfold setV
  go_enter Tryd.func37, Tryd.ntmps37
  go_wp2_with fail
  have hX := h.alloc (Nat.le_refl _) (.cells #[.int .i64 (n : Int), .slice A ws.length c] 24)
  refine (bvalid_any n A c ws _ (hX.more (by simp)) (by omega)).mono ?_
  rintro e w1 ⟨rfl, hb⟩
  rw [hv.out]
  have t1 : Two w1 w.heap.size (.int .i64 (n : Int)) (.slice A ws.length c) := (Two.new_ _ _ _ _).below hb (by simp)
  have hB : Below w.heap.size w w1 := ((Below.refl _ _).alloc (Nat.le_refl _) _).trans (hb.mono (by simp))
  have c11 := t1.c1
  go_wp2_with fail
  go_loop [3, 12] (fun cv kv => ∃ k m : Nat, k ≤ ws.length ∧ kv = .int .i64 k ∧ Hid (m = Kb.cnt (Kb.bitAt ws) (64 * k)) ∧ cv = .int .i64 m) (fun _ kv => ws.length - (intOf kv).toNat)
  case atStart => exact ⟨0, 0, Nat.zero_le _, rfl, Lib.hid rfl, rfl⟩
  case round =>
    obtain ⟨k, m, hk, rfl, hm, rfl⟩ := hrel
    have hmk : m ≤ 64 * k := by have := Kb.cnt_le (Kb.bitAt ws) (64 * k); rw [← hm.out] at this; exact this
    by_cases hlt : k < ws.length
    · obtain ⟨b, off, x, rfl, hbb, hc, hx⟩ := (h.below hB).at_ hlt
      obtain ⟨o, ho⟩ : ∃ o, Hid (o = Kb.cnt x.testBit 64) := ⟨_, Lib.hid rfl⟩
      have hol : o ≤ 64 := by rw [ho.out]; exact Kb.cnt_le _ _
      go_wp2_with fail
      refine (ones_ok x hx.out.2 _).mono ?_
      rintro e w' ⟨rfl, rfl⟩
      rw [← ho.out]
      go_wp2_with fail
      go_round
      case rel => exact ⟨k + 1, m + o, by omega, by go_num, Lib.hid (by rw [Kb.cnt_word, ← hx.out.1, ← ho.out, ← hm.out]), by go_num⟩
      case measure => simp [intOf]; omega
    · obtain rfl : k = ws.length := by omega
      have he : Hid (m = Kb.cnt (Kb.bitAt ws) n) := Lib.hid (by rw [hm.out, Kb.cnt_all hok])
      go_wp2_with fail
      go_ret
      exact ⟨ret_int (by rw [he.out]), hB⟩

set_option maxRecDepth 100000 in
set_option maxHeartbeats 400000 in
theorem count_bad (sz : Int) (A : Option Addr) (c : Nat) (ws : List Nat) (w : World) (h : Words w w.heap.size A ws) (hl : ws.length ≤ 140737488351232) (hv : Kb.validB sz ws = false) :
    Calls Tryd.prog 37 #[setV sz A ws.length c] w fun e w' => e = .returned (.int .i64 0) ∧ Below w.heap.size w w' := by
  have hV := Lib.hid hv
  clear hv
  unfold setV
  go_enter Tryd.func37, Tryd.ntmps37
  go_wp2_with fail
  have hX := h.alloc (Nat.le_refl _) (.cells #[.int .i64 sz, .slice A ws.length c] 24)
  refine (bvalid_any sz A c ws _ (hX.more (by simp)) hl).mono ?_
  rintro e w1 ⟨rfl, hb⟩
  rw [hV.out]
  have hB : Below w.heap.size w w1 := ((Below.refl _ _).alloc (Nat.le_refl _) _).trans (hb.mono (by simp))
  go_wp2_with fail
  go_ret
  exact ⟨rfl, hB⟩

set_option maxRecDepth 100000 in
set_option maxHeartbeats 400000 in
theorem next_bad (sz : Int) (A : Option Addr) (c : Nat) (ws : List Nat) (i : Int) (w : World) (h : Words w w.heap.size A ws) (hl : ws.length ≤ 140737488351232) (hv : Kb.validB sz ws = false) :
    Calls Tryd.prog 42 #[setV sz A ws.length c, .int .i64 i] w fun e w' => e = .returned (.int .i64 (-1)) ∧ Below w.heap.size w w' := by
  have hV := Lib.hid hv
  clear hv
  unfold setV
  go_enter Tryd.func42, Tryd.ntmps42
  go_wp2_with fail
  have hX := h.alloc (Nat.le_refl _) (.cells #[.int .i64 sz, .slice A ws.length c] 24)
  refine (bvalid_any sz A c ws _ (hX.more (by simp)) hl).mono ?_
  rintro e w1 ⟨rfl, hb⟩
  rw [hV.out]
  have hB : Below w.heap.size w w1 := ((Below.refl _ _).alloc (Nat.le_refl _) _).trans (hb.mono (by simp))
  go_wp2_with fail
  go_ret
  exact ⟨rfl, hB⟩

set_option maxRecDepth 100000 in
set_option maxHeartbeats 400000 in
theorem least_bad (sz : Int) (A : Option Addr) (c : Nat) (ws : List Nat) (w : World) (h : Words w w.heap.size A ws) (hl : ws.length ≤ 140737488351232) (hv : Kb.validB sz ws = false) :
    Calls Tryd.prog 40 #[setV sz A ws.length c] w fun e w' => e = .returned (.int .i64 (-1)) ∧ Below w.heap.size w w' := by
  unfold setV
  have hX := h.alloc (Nat.le_refl _) (.cells #[.int .i64 sz, .slice A ws.length c] 24)
  go_enter Tryd.func40, Tryd.ntmps40
  go_wp2_with fail
  refine (next_bad sz A c ws (-1) _ (hX.more (by simp)) hl hv).mono ?_
  rintro e w1 ⟨rfl, hb⟩
  go_wp2_with fail
  go_ret
  exact ⟨rfl, ((Below.refl _ _).alloc (Nat.le_refl _) _).trans (hb.mono (by simp))⟩
end Go.Proofs.YtmdekgbnpbanaaaDoor
