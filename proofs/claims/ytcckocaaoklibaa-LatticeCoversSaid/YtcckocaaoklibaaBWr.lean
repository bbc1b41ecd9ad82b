/- Walks: OnesCount64, exactly. -/
import Derived.Test.YtcckocaaoklibaaBPop
import Derived.Test.YtcckocaaoklibaaN1
namespace Go.Proofs.Ytcckocaaoklibaa
open Go.RowKit
set_option linter.unusedVariables false

theorem and127_nat (c : Nat) (hc : c < 2 ^ 61) : bits BinOp.and .i64 (c : Int) 127 = ((c % 128 : Nat) : Int) := by
  show IntKind.i64.wrap ((BitVec.ofInt 64 (c : Int) &&& BitVec.ofInt 64 127).toNat : Int) = _
  rw [show BitVec.ofInt 64 127 = 127#64 from rfl, BitVec.toNat_and, BitVec.ofInt_natCast, BitVec.toNat_ofNat, show (127#64 : BitVec 64).toNat = 2 ^ 7 - 1 from rfl, Nat.and_two_pow_sub_one_eq_mod, IntKind.wrap_i64]
  omega

set_option maxRecDepth 100000 in
set_option maxHeartbeats 400000 in
theorem ones_ok (x : Nat) (hx : x < 2 ^ 64) (w : World) :
    Calls Try.prog 16 #[.int .u64 (x : Int)] w fun e w' => e = .returned (.int .i64 ((Kb.cnt x.testBit 64 : Nat) : Int)) ∧ w = w' := by
  go_enter Try.func16, Try.ntmps16
  go_wp2_with fail
  go_ret
  refine ⟨ret_int ?_, rfl⟩
  obtain ⟨y1, h1⟩ : ∃ y1, y1 = (x / 2 &&& 6148914691236517205) + (x &&& 6148914691236517205) := ⟨_, rfl⟩
  obtain ⟨y2, h2⟩ : ∃ y2, y2 = (y1 / 4 &&& 3689348814741910323) + (y1 &&& 3689348814741910323) := ⟨_, rfl⟩
  obtain ⟨y3, h3⟩ : ∃ y3, y3 = (y2 / 16 + y2) &&& 1085102592571150095 := ⟨_, rfl⟩
  obtain ⟨a, ha⟩ : ∃ a, a = y3 + y3 / 256 := ⟨_, rfl⟩
  obtain ⟨b, hb⟩ : ∃ b, b = a + a / 65536 := ⟨_, rfl⟩
  obtain ⟨c, hc⟩ : ∃ c, c = b + b / 4294967296 := ⟨_, rfl⟩
  obtain ⟨bd1, bd2, bd3⟩ := Kb.y_bounds x y1 y2 h1 h2
  obtain ⟨N, na, nb, nc⟩ := Kb.ones_nat x y1 y2 y3 a b c hx h1 h2 h3 ha hb hc
  have e1 : bits BinOp.and IntKind.u64 ((x : Int) / 2) 6148914691236517205 = ((x / 2 &&& 6148914691236517205 : Nat) : Int) := by
    rw [show (x : Int) / 2 = ((x / 2 : Nat) : Int) by omega]; exact u64_and_nat _ _ (by omega) (by decide)
  have e2 : bits BinOp.and IntKind.u64 (x : Int) 6148914691236517205 = ((x &&& 6148914691236517205 : Nat) : Int) := u64_and_nat _ _ hx (by decide)
  have e3 : IntKind.u64.wrap (((x / 2 &&& 6148914691236517205 : Nat) : Int) + ((x &&& 6148914691236517205 : Nat) : Int)) = (y1 : Int) := by
    rw [← Int.natCast_add, ← h1]; exact wrap_nat bd1
  have e4 : bits BinOp.and IntKind.u64 ((y1 : Int) / 4) 3689348814741910323 = ((y1 / 4 &&& 3689348814741910323 : Nat) : Int) := by
    rw [show (y1 : Int) / 4 = ((y1 / 4 : Nat) : Int) by omega]; exact u64_and_nat _ _ (by omega) (by decide)
  have e5 : bits BinOp.and IntKind.u64 (y1 : Int) 3689348814741910323 = ((y1 &&& 3689348814741910323 : Nat) : Int) := u64_and_nat _ _ bd1 (by decide)
  have e6 : IntKind.u64.wrap (((y1 / 4 &&& 3689348814741910323 : Nat) : Int) + ((y1 &&& 3689348814741910323 : Nat) : Int)) = (y2 : Int) := by
    rw [← Int.natCast_add, ← h2]; exact wrap_nat (by omega)
  have e7 : IntKind.u64.wrap ((y2 : Int) / 16 + (y2 : Int)) = ((y2 / 16 + y2 : Nat) : Int) := by
    rw [show (y2 : Int) / 16 + (y2 : Int) = ((y2 / 16 + y2 : Nat) : Int) by omega]; exact wrap_nat bd3
  have e8 : bits BinOp.and IntKind.u64 ((y2 / 16 + y2 : Nat) : Int) 1085102592571150095 = (y3 : Int) := by
    rw [h3]; exact u64_and_nat _ _ bd3 (by decide)
  have e9 : IntKind.u64.wrap ((y3 : Int) + (y3 : Int) / 256) = (a : Int) := by
    rw [show (y3 : Int) + (y3 : Int) / 256 = (a : Int) by omega]; exact wrap_nat (by omega)
  have e10 : IntKind.u64.wrap ((a : Int) + (a : Int) / 65536) = (b : Int) := by
    rw [show (a : Int) + (a : Int) / 65536 = (b : Int) by omega]; exact wrap_nat (by omega)
  have e11 : IntKind.u64.wrap ((b : Int) + (b : Int) / 4294967296) = (c : Int) := by
    rw [show (b : Int) + (b : Int) / 4294967296 = (c : Int) by omega]; exact wrap_nat (by omega)
  rw [e1, e2, e3, e4, e5, e6, e7, e8, e9, e10, e11, ← N, show wrap64 (c : Int) = (c : Int) by first | omega | (unfold wrap64; omega)]
  exact and127_nat c nc

end Go.Proofs.Ytcckocaaoklibaa
