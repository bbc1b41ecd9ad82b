/- Walks: strconv.Itoa of a small number; join of package types. -/
import Derived.Test.YtbgaagopckbihaaGreatDoorSl
import Derived.Test.YtbgaagopckbihaaGreatDoorLib
namespace Go.Proofs.YtbgaagopckbihaaGreatDoor
open Go.RowKit Go.Sort
set_option linter.unusedVariables false

set_option maxRecDepth 100000 in
theorem small_any (i : Nat) (hi : i < 33) (w : World) : Calls Tryz.prog 140 #[.int .i64 (i : Int)] w fun e w' => e = .returned (.string (num i)) ∧ w = w' := by
  by_cases h : i < 10
  · have hI : (i : Int) < 10 := by omega
    go_enter Tryz.func140, Tryz.ntmps140
    go_wp2_with fail
    go_ret
    refine ⟨ret_str ?_, rfl⟩
    obtain rfl | rfl | rfl | rfl | rfl | rfl | rfl | rfl | rfl | rfl : i = 0 ∨ i = 1 ∨ i = 2 ∨ i = 3 ∨ i = 4 ∨ i = 5 ∨ i = 6 ∨ i = 7 ∨ i = 8 ∨ i = 9 := by omega
    all_goals decide +kernel
  · have hI : ¬ (i : Int) < 10 := by omega
    go_enter Tryz.func140, Tryz.ntmps140
    go_wp2_with fail
    go_ret
    refine ⟨ret_str ?_, rfl⟩
    obtain rfl | rfl | rfl | rfl | rfl | rfl | rfl | rfl | rfl | rfl | rfl | rfl | rfl | rfl | rfl | rfl | rfl | rfl | rfl | rfl | rfl | rfl | rfl : i = 10 ∨ i = 11 ∨ i = 12 ∨ i = 13 ∨ i = 14 ∨ i = 15 ∨ i = 16 ∨ i = 17 ∨ i = 18 ∨ i = 19 ∨ i = 20 ∨ i = 21 ∨ i = 22 ∨ i = 23 ∨ i = 24 ∨ i = 25 ∨ i = 26 ∨ i = 27 ∨ i = 28 ∨ i = 29 ∨ i = 30 ∨ i = 31 ∨ i = 32 := by omega
    all_goals decide +kernel
set_option maxRecDepth 100000 in
theorem itoa_any (i : Nat) (hi : i < 33) (w : World) : Calls Tryz.prog 83 #[.int .i64 (i : Int)] w fun e w' => e = .returned (.string (num i)) ∧ w = w' := by
  have h1 : ∀ w : World, Calls Tryz.prog 118 #[.int .i64 (i : Int), .int .i64 10] w fun e w' => e = .returned (.string (num i)) ∧ w = w' := fun w => by
    have hI : (i : Int) < 100 := by omega
    go_enter Tryz.func118, Tryz.ntmps118
    go_wp2_with fail
    refine (small_any i hi _).mono ?_
    rintro r w1 ⟨rfl, rfl⟩
    go_wp2_with fail
    go_ret
    exact ⟨rfl, rfl⟩
  have h2 : ∀ w : World, Calls Tryz.prog 103 #[.int .i64 (i : Int)] w fun e w' => e = .returned (.string (num i)) ∧ w = w' := fun w => by
    have H1 := Lib.hid h1
    clear h1
    go_enter Tryz.func103, Tryz.ntmps103
    go_wp2_with fail
    refine (H1.out _).mono ?_
    rintro r w1 ⟨rfl, rfl⟩
    go_wp2_with fail
    go_ret
    exact ⟨rfl, rfl⟩
  have H2 := Lib.hid h2
  clear h1 h2
  go_enter Tryz.func83, Tryz.ntmps83
  go_wp2_with fail
  refine (H2.out _).mono ?_
  rintro r w1 ⟨rfl, rfl⟩
  go_wp2_with fail
  go_ret
  exact ⟨rfl, rfl⟩
theorem bytes_app (l : List UInt8) (s : ByteArray) : Lib.byteCells l ++ Lib.strCells s = Lib.byteCells (l ++ s.data.toList) := by
  simp [Lib.byteCells, Lib.strCells]
theorem bytes_one (l : List UInt8) (b : UInt8) (c : Int) (h : c = (b.toNat : Int)) : Lib.byteCells l ++ [.int .u8 c] = Lib.byteCells (l ++ [b]) := by
  subst h; simp [Lib.byteCells]
set_option maxRecDepth 100000 in
set_option maxHeartbeats 1000000 in
theorem join_any (p n : ByteArray) (hp : p.size ≤ 1000000) (hn : n.size ≤ 1000000) (w : World) : Calls Tryz.prog 55 #[.string p, .string n] w fun e w' => e = .returned (.string (jn p n)) ∧ Below w.heap.size w w' := by
  have X0 : Lib.IsBuilderF 113 5 w.heap.size w.heap.size (Lib.byteCells []) (w.alloc (.cells #[.pointer none, .slice none 0 0] 113)) :=
    .inl ⟨Nat.le_refl _, .slice none 0 0, heap_alloc_new _ _, World.ownsRowF_nil _ _ _ _, by simp [Value.ownBlock]⟩
  have b0 := al1 w (.cells #[.pointer none, .slice none 0 0] 113)
  have hz : w.heap.size ≤ (w.alloc (.cells #[.pointer none, .slice none 0 0] 113)).heap.size := by simp
  go_enter Tryz.func55, Tryz.ntmps55
  go_upto_region 2 with (fail)
  revert X0 b0 hz
  generalize w.alloc (.cells #[.pointer none, .slice none 0 0] 113) = w1
  intro X0 b0 hz
  go_wp2_with fail
  refine (writeString w.heap.size w.heap.size _ p w1 X0 (by simp [Lib.byteCells] <;> omega) hz).mono ?_
  rintro e w2 ⟨rfl, ha2, hb2, -⟩
  have b2 := bAll b0 hb2
  have X2 : Lib.IsBuilderF 113 5 w.heap.size w.heap.size (Lib.byteCells (bs p)) w2 := .inr (by rw [bytes_app] at ha2; exact ha2)
  have hl2 : (Lib.byteCells (bs p)).length = p.size := by simp [Lib.byteCells, bs_length]
  clear ha2 hb2 X0 b0
  go_wp2_with fail
  refine (writeByte w.heap.size w.heap.size _ 46 w2 X2 (by rw [hl2]; omega) b2.size).mono ?_
  rintro e w3 ⟨rfl, ha3, hb3, -⟩
  have b3 := bAll b2 hb3
  have X3 : Lib.IsBuilderF 113 5 w.heap.size w.heap.size (Lib.byteCells (bs p ++ [46])) w3 := .inr (by rw [bytes_one _ 46 46 rfl] at ha3; exact ha3)
  have hl3 : (Lib.byteCells (bs p ++ [46])).length = p.size + 1 := by simp [Lib.byteCells, bs_length]
  clear ha3 hb3 X2 b2
  go_wp2_with fail
  refine (writeString w.heap.size w.heap.size _ n w3 X3 (by rw [hl3]; omega) b3.size).mono ?_
  rintro e w4 ⟨rfl, ha4, hb4, -⟩
  have b4 := bAll b3 hb4
  have X4 : Lib.IsBuilderF 113 5 w.heap.size w.heap.size (Lib.byteCells (bs p ++ [46] ++ bs n)) w4 := .inr (by rw [bytes_app] at ha4; exact ha4)
  clear ha4 hb4 X3 b3
  go_wp2_with fail
  refine (builderString w.heap.size w.heap.size _ w4 X4 b4.size).mono ?_
  rintro e w5 ⟨rfl, _, hb5, _⟩
  have b5 := bAll b4 hb5
  go_wp2_with fail
  go_ret
  exact ⟨ret_str (by unfold jn mkB; simp), b5⟩
end Go.Proofs.YtbgaagopckbihaaGreatDoor
