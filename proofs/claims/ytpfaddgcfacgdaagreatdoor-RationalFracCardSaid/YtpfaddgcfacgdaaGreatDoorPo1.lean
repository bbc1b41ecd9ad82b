/- My texts, packed: M1, M2, M4, M5. -/
import Derived.Test.YtpfaddgcfacgdaaGreatDoorPk13
import Derived.Shelf.Bits.Mul64
import Derived.Test.YtpfaddgcfacgdaaGreatDoorPk16
import Derived.Test.YtpfaddgcfacgdaaGreatDoorPm2
/- Walks of package rational: the product of words, the order of small fractions. -/
namespace Go.Proofs.YtpfaddgcfacgdaaGreatDoor
open Go.RowKit
set_option linter.unusedVariables false

open Go.Shelf in
def mulRen : Go.Shelf.Ren := ⟨fun | 264 => 73 | n => n, fun | 46 => 95 | 53 => 73 | n => n, fun | n => n⟩
theorem lays264 : Go.Proofs.Lays.n264 Tryz.prog mulRen := {
  mixed := by kernel_rfl
  f264 := Tryz.func73.trans (congrArg some (by kernel_rfl))
  t46 := Tryz.underlying95
  a46 := Tryz.isAgg95
  z46 := Tryz.sizeOf95
  v46 := Tryz.zeroValue95
  t53 := Tryz.underlying73
  a53 := Tryz.isAgg73
  z53 := Tryz.sizeOf73
  v53 := Tryz.zeroValue73 }
/-- the product in two words -/
theorem gmul64 (x y : Nat) (hx : x < 18446744073709551616) (hy : y < 18446744073709551616) : ∃ h l : Nat, h * 18446744073709551616 + l = x * y ∧ l < 18446744073709551616 ∧ ∀ w : World,
    Calls Tryz.prog 73 #[.int .u64 (x : Int), .int .u64 (y : Int)] w fun e w' => e = .returned (.tuple #[.int .u64 (h : Int), .int .u64 (l : Int)]) ∧ w' = w :=
  ⟨x * y / 18446744073709551616, x * y % 18446744073709551616, by omega, by omega, fun w => Any.bits_Mul64 lays264 x y hx hy w⟩
/-- is one small fraction valid and below another valid one? -/
def lessF (a b c d : Int) : Bool := decide ((0 ≤ a ∧ 1 ≤ b) ∧ (0 ≤ c ∧ 1 ≤ d) ∧ a * d < c * b)
end Go.Proofs.YtpfaddgcfacgdaaGreatDoor
/- Walks of package rational: Less of small fractions. -/
namespace Go.Proofs.YtpfaddgcfacgdaaGreatDoor
open Go.RowKit
set_option linter.unusedVariables false

set_option maxRecDepth 100000 in
set_option maxHeartbeats 1500000 in
theorem less_bad1 (a b c d : Int) (h : ¬ (0 ≤ a ∧ 1 ≤ b)) (w : World) :
    Calls Tryz.prog 42 #[.agg #[.int .i64 a, .int .i64 b], .agg #[.int .i64 c, .int .i64 d]] w fun e w' => e = .returned (.bool false) ∧ Below w.heap.size w w' := by
  have HF1 := Lib.hid (fun W => (by have h1 := isfrac_any a b W; rwa [decide_eq_false h] at h1 : Calls Tryz.prog 71 #[.agg #[.int .i64 a, .int .i64 b]] W fun e w' => e = .returned (.bool false) ∧ Below W.heap.size W w'))
  clear h
  go_enter Tryz.func42, Tryz.ntmps42
  go_wp2_with fail
  have t1 : Two ((w.alloc (.cells #[.int .i64 a, .int .i64 b] 47)).alloc (.cells #[.int .i64 c, .int .i64 d] 47)) w.heap.size (.int .i64 a) (.int .i64 b) := (Two.new_ w (.int .i64 a) (.int .i64 b) 47).alloc _
  have t2 : Two ((w.alloc (.cells #[.int .i64 a, .int .i64 b] 47)).alloc (.cells #[.int .i64 c, .int .i64 d] 47)) (w.heap.size + 1) (.int .i64 c) (.int .i64 d) := by simpa only [World.size_alloc, Nat.add_assoc, Nat.reduceAdd] using Two.new_ (w.alloc (.cells #[.int .i64 a, .int .i64 b] 47)) (.int .i64 c) (.int .i64 d) 47
  have bel : Below w.heap.size w ((w.alloc (.cells #[.int .i64 a, .int .i64 b] 47)).alloc (.cells #[.int .i64 c, .int .i64 d] 47)) := ((Below.refl _ _).alloc (Nat.le_refl _) _).alloc (by simp only [World.size_alloc]; omega) _
  generalize ((w.alloc (.cells #[.int .i64 a, .int .i64 b] 47)).alloc (.cells #[.int .i64 c, .int .i64 d] 47)) = wx at t1 t2 bel ⊢
  have t1_0 := t1.c0
  have t1_1 := t1.c1
  go_wp2_with fail
  refine (HF1.out _).mono ?_
  rintro e w2 ⟨rfl, hb⟩
  clear t1_0 t1_1
  replace t1 := t1.below hb t1.lt
  replace t2 := t2.below hb t2.lt
  replace bel := bel.trans (hb.mono bel.size)
  clear hb
  go_wp2_with fail
  go_ret
  exact ⟨rfl, bel⟩

set_option maxRecDepth 100000 in
set_option maxHeartbeats 1500000 in
theorem less_bad2 (a b c d : Int) (h0 : 0 ≤ a ∧ 1 ≤ b) (h : ¬ (0 ≤ c ∧ 1 ≤ d)) (w : World) :
    Calls Tryz.prog 42 #[.agg #[.int .i64 a, .int .i64 b], .agg #[.int .i64 c, .int .i64 d]] w fun e w' => e = .returned (.bool false) ∧ Below w.heap.size w w' := by
  have HF1 := Lib.hid (fun W => (by have h1 := isfrac_any a b W; rwa [decide_eq_true h0] at h1 : Calls Tryz.prog 71 #[.agg #[.int .i64 a, .int .i64 b]] W fun e w' => e = .returned (.bool true) ∧ Below W.heap.size W w'))
  have HF2 := Lib.hid (fun W => (by have h1 := isfrac_any c d W; rwa [decide_eq_false h] at h1 : Calls Tryz.prog 71 #[.agg #[.int .i64 c, .int .i64 d]] W fun e w' => e = .returned (.bool false) ∧ Below W.heap.size W w'))
  clear h h0
  go_enter Tryz.func42, Tryz.ntmps42
  go_wp2_with fail
  have t1 : Two ((w.alloc (.cells #[.int .i64 a, .int .i64 b] 47)).alloc (.cells #[.int .i64 c, .int .i64 d] 47)) w.heap.size (.int .i64 a) (.int .i64 b) := (Two.new_ w (.int .i64 a) (.int .i64 b) 47).alloc _
  have t2 : Two ((w.alloc (.cells #[.int .i64 a, .int .i64 b] 47)).alloc (.cells #[.int .i64 c, .int .i64 d] 47)) (w.heap.size + 1) (.int .i64 c) (.int .i64 d) := by simpa only [World.size_alloc, Nat.add_assoc, Nat.reduceAdd] using Two.new_ (w.alloc (.cells #[.int .i64 a, .int .i64 b] 47)) (.int .i64 c) (.int .i64 d) 47
  have bel : Below w.heap.size w ((w.alloc (.cells #[.int .i64 a, .int .i64 b] 47)).alloc (.cells #[.int .i64 c, .int .i64 d] 47)) := ((Below.refl _ _).alloc (Nat.le_refl _) _).alloc (by simp only [World.size_alloc]; omega) _
  generalize ((w.alloc (.cells #[.int .i64 a, .int .i64 b] 47)).alloc (.cells #[.int .i64 c, .int .i64 d] 47)) = wx at t1 t2 bel ⊢
  have t1_0 := t1.c0
  have t1_1 := t1.c1
  go_wp2_with fail
  refine (HF1.out _).mono ?_
  rintro e w2 ⟨rfl, hb⟩
  clear t1_0 t1_1
  replace t1 := t1.below hb t1.lt
  replace t2 := t2.below hb t2.lt
  replace bel := bel.trans (hb.mono bel.size)
  clear hb
  have t2_0 := t2.c0
  have t2_1 := t2.c1
  go_wp2_with fail
  refine (HF2.out _).mono ?_
  rintro e w3 ⟨rfl, hb⟩
  clear t2_0 t2_1
  replace t1 := t1.below hb t1.lt
  replace t2 := t2.below hb t2.lt
  replace bel := bel.trans (hb.mono bel.size)
  clear hb
  go_wp2_with fail
  go_ret
  exact ⟨rfl, bel⟩

set_option maxRecDepth 100000 in
set_option maxHeartbeats 2000000 in
theorem less_lt (a b c d x1 y1 x2 y2 : Nat) (ha : a ≤ 9223372036854775807) (hb : b ≤ 9223372036854775807) (hc : c ≤ 9223372036854775807) (hd : d ≤ 9223372036854775807) (b1 : 1 ≤ b) (d1 : 1 ≤ d) (m1 : ∀ W : World, Calls Tryz.prog 73 #[.int .u64 (a : Int), .int .u64 (d : Int)] W fun e w' => e = .returned (.tuple #[.int .u64 (x1 : Int), .int .u64 (y1 : Int)]) ∧ w' = W) (m2 : ∀ W : World, Calls Tryz.prog 73 #[.int .u64 (c : Int), .int .u64 (b : Int)] W fun e w' => e = .returned (.tuple #[.int .u64 (x2 : Int), .int .u64 (y2 : Int)]) ∧ w' = W) (k : x1 < x2) (w : World) :
    Calls Tryz.prog 42 #[.agg #[.int .i64 (a : Int), .int .i64 (b : Int)], .agg #[.int .i64 (c : Int), .int .i64 (d : Int)]] w fun e w' => e = .returned (.bool true) ∧ Below w.heap.size w w' := by
  have HF1 := Lib.hid (fun W => (by have h1 := isfrac_any (a : Int) (b : Int) W; rwa [decide_eq_true (show (0 : Int) ≤ (a : Int) ∧ 1 ≤ (b : Int) by omega)] at h1 : Calls Tryz.prog 71 #[.agg #[.int .i64 (a : Int), .int .i64 (b : Int)]] W fun e w' => e = .returned (.bool true) ∧ Below W.heap.size W w'))
  have HF2 := Lib.hid (fun W => (by have h1 := isfrac_any (c : Int) (d : Int) W; rwa [decide_eq_true (show (0 : Int) ≤ (c : Int) ∧ 1 ≤ (d : Int) by omega)] at h1 : Calls Tryz.prog 71 #[.agg #[.int .i64 (c : Int), .int .i64 (d : Int)]] W fun e w' => e = .returned (.bool true) ∧ Below W.heap.size W w'))
  have w_a : IntKind.u64.wrap (a : Int) = (a : Int) := Mul64.wrapN a (by omega)
  have w_b : IntKind.u64.wrap (b : Int) = (b : Int) := Mul64.wrapN b (by omega)
  have w_c : IntKind.u64.wrap (c : Int) = (c : Int) := Mul64.wrapN c (by omega)
  have w_d : IntKind.u64.wrap (d : Int) = (d : Int) := Mul64.wrapN d (by omega)
  have M1 := Lib.hid m1
  have M2 := Lib.hid m2
  clear m1 m2
  have q1 : decide ((x1 : Int) < (x2 : Int)) = true := decide_eq_true (by omega)
  have n1 : decide (x1 < x2) = true := decide_eq_true (by omega)
  clear k ha hb hc hd b1 d1
  go_enter Tryz.func42, Tryz.ntmps42
  go_wp2_with fail
  have t1 : Two ((w.alloc (.cells #[.int .i64 (a : Int), .int .i64 (b : Int)] 47)).alloc (.cells #[.int .i64 (c : Int), .int .i64 (d : Int)] 47)) w.heap.size (.int .i64 (a : Int)) (.int .i64 (b : Int)) := (Two.new_ w (.int .i64 (a : Int)) (.int .i64 (b : Int)) 47).alloc _
  have t2 : Two ((w.alloc (.cells #[.int .i64 (a : Int), .int .i64 (b : Int)] 47)).alloc (.cells #[.int .i64 (c : Int), .int .i64 (d : Int)] 47)) (w.heap.size + 1) (.int .i64 (c : Int)) (.int .i64 (d : Int)) := by simpa only [World.size_alloc, Nat.add_assoc, Nat.reduceAdd] using Two.new_ (w.alloc (.cells #[.int .i64 (a : Int), .int .i64 (b : Int)] 47)) (.int .i64 (c : Int)) (.int .i64 (d : Int)) 47
  have bel : Below w.heap.size w ((w.alloc (.cells #[.int .i64 (a : Int), .int .i64 (b : Int)] 47)).alloc (.cells #[.int .i64 (c : Int), .int .i64 (d : Int)] 47)) := ((Below.refl _ _).alloc (Nat.le_refl _) _).alloc (by simp only [World.size_alloc]; omega) _
  generalize ((w.alloc (.cells #[.int .i64 (a : Int), .int .i64 (b : Int)] 47)).alloc (.cells #[.int .i64 (c : Int), .int .i64 (d : Int)] 47)) = wx at t1 t2 bel ⊢
  have t1_0 := t1.c0
  have t1_1 := t1.c1
  go_wp2_with fail
  refine (HF1.out _).mono ?_
  rintro e w2 ⟨rfl, hb⟩
  clear t1_0 t1_1
  replace t1 := t1.below hb t1.lt
  replace t2 := t2.below hb t2.lt
  replace bel := bel.trans (hb.mono bel.size)
  clear hb
  have t2_0 := t2.c0
  have t2_1 := t2.c1
  go_wp2_with fail
  refine (HF2.out _).mono ?_
  rintro e w3 ⟨rfl, hb⟩
  clear t2_0 t2_1
  replace t1 := t1.below hb t1.lt
  replace t2 := t2.below hb t2.lt
  replace bel := bel.trans (hb.mono bel.size)
  clear hb
  have t1_0 := t1.c0
  have t1_1 := t1.c1
  have t2_0 := t2.c0
  have t2_1 := t2.c1
  go_wp2_with fail
  refine (M1.out _).mono ?_
  rintro e _ ⟨rfl, rfl⟩
  go_wp2_with fail
  refine (M2.out _).mono ?_
  rintro e _ ⟨rfl, rfl⟩
  go_wp2_with fail
  go_ret
  exact ⟨rfl, bel⟩

set_option maxRecDepth 100000 in
set_option maxHeartbeats 2000000 in
theorem less_gt (a b c d x1 y1 x2 y2 : Nat) (ha : a ≤ 9223372036854775807) (hb : b ≤ 9223372036854775807) (hc : c ≤ 9223372036854775807) (hd : d ≤ 9223372036854775807) (b1 : 1 ≤ b) (d1 : 1 ≤ d) (m1 : ∀ W : World, Calls Tryz.prog 73 #[.int .u64 (a : Int), .int .u64 (d : Int)] W fun e w' => e = .returned (.tuple #[.int .u64 (x1 : Int), .int .u64 (y1 : Int)]) ∧ w' = W) (m2 : ∀ W : World, Calls Tryz.prog 73 #[.int .u64 (c : Int), .int .u64 (b : Int)] W fun e w' => e = .returned (.tuple #[.int .u64 (x2 : Int), .int .u64 (y2 : Int)]) ∧ w' = W) (k : x2 < x1) (w : World) :
    Calls Tryz.prog 42 #[.agg #[.int .i64 (a : Int), .int .i64 (b : Int)], .agg #[.int .i64 (c : Int), .int .i64 (d : Int)]] w fun e w' => e = .returned (.bool false) ∧ Below w.heap.size w w' := by
  have HF1 := Lib.hid (fun W => (by have h1 := isfrac_any (a : Int) (b : Int) W; rwa [decide_eq_true (show (0 : Int) ≤ (a : Int) ∧ 1 ≤ (b : Int) by omega)] at h1 : Calls Tryz.prog 71 #[.agg #[.int .i64 (a : Int), .int .i64 (b : Int)]] W fun e w' => e = .returned (.bool true) ∧ Below W.heap.size W w'))
  have HF2 := Lib.hid (fun W => (by have h1 := isfrac_any (c : Int) (d : Int) W; rwa [decide_eq_true (show (0 : Int) ≤ (c : Int) ∧ 1 ≤ (d : Int) by omega)] at h1 : Calls Tryz.prog 71 #[.agg #[.int .i64 (c : Int), .int .i64 (d : Int)]] W fun e w' => e = .returned (.bool true) ∧ Below W.heap.size W w'))
  have w_a : IntKind.u64.wrap (a : Int) = (a : Int) := Mul64.wrapN a (by omega)
  have w_b : IntKind.u64.wrap (b : Int) = (b : Int) := Mul64.wrapN b (by omega)
  have w_c : IntKind.u64.wrap (c : Int) = (c : Int) := Mul64.wrapN c (by omega)
  have w_d : IntKind.u64.wrap (d : Int) = (d : Int) := Mul64.wrapN d (by omega)
  have M1 := Lib.hid m1
  have M2 := Lib.hid m2
  clear m1 m2
  have q1 : decide ((x1 : Int) < (x2 : Int)) = false := decide_eq_false (by omega)
  have q2 : ((x1 : Int) == (x2 : Int)) = false := beq_eq_false_iff_ne.2 (by omega)
  have n1 : decide (x1 < x2) = false := decide_eq_false (by omega)
  clear k ha hb hc hd b1 d1
  go_enter Tryz.func42, Tryz.ntmps42
  go_wp2_with fail
  have t1 : Two ((w.alloc (.cells #[.int .i64 (a : Int), .int .i64 (b : Int)] 47)).alloc (.cells #[.int .i64 (c : Int), .int .i64 (d : Int)] 47)) w.heap.size (.int .i64 (a : Int)) (.int .i64 (b : Int)) := (Two.new_ w (.int .i64 (a : Int)) (.int .i64 (b : Int)) 47).alloc _
  have t2 : Two ((w.alloc (.cells #[.int .i64 (a : Int), .int .i64 (b : Int)] 47)).alloc (.cells #[.int .i64 (c : Int), .int .i64 (d : Int)] 47)) (w.heap.size + 1) (.int .i64 (c : Int)) (.int .i64 (d : Int)) := by simpa only [World.size_alloc, Nat.add_assoc, Nat.reduceAdd] using Two.new_ (w.alloc (.cells #[.int .i64 (a : Int), .int .i64 (b : Int)] 47)) (.int .i64 (c : Int)) (.int .i64 (d : Int)) 47
  have bel : Below w.heap.size w ((w.alloc (.cells #[.int .i64 (a : Int), .int .i64 (b : Int)] 47)).alloc (.cells #[.int .i64 (c : Int), .int .i64 (d : Int)] 47)) := ((Below.refl _ _).alloc (Nat.le_refl _) _).alloc (by simp only [World.size_alloc]; omega) _
  generalize ((w.alloc (.cells #[.int .i64 (a : Int), .int .i64 (b : Int)] 47)).alloc (.cells #[.int .i64 (c : Int), .int .i64 (d : Int)] 47)) = wx at t1 t2 bel ⊢
  have t1_0 := t1.c0
  have t1_1 := t1.c1
  go_wp2_with fail
  refine (HF1.out _).mono ?_
  rintro e w2 ⟨rfl, hb⟩
  clear t1_0 t1_1
  replace t1 := t1.below hb t1.lt
  replace t2 := t2.below hb t2.lt
  replace bel := bel.trans (hb.mono bel.size)
  clear hb
  have t2_0 := t2.c0
  have t2_1 := t2.c1
  go_wp2_with fail
  refine (HF2.out _).mono ?_
  rintro e w3 ⟨rfl, hb⟩
  clear t2_0 t2_1
  replace t1 := t1.below hb t1.lt
  replace t2 := t2.below hb t2.lt
  replace bel := bel.trans (hb.mono bel.size)
  clear hb
  have t1_0 := t1.c0
  have t1_1 := t1.c1
  have t2_0 := t2.c0
  have t2_1 := t2.c1
  go_wp2_with fail
  refine (M1.out _).mono ?_
  rintro e _ ⟨rfl, rfl⟩
  go_wp2_with fail
  refine (M2.out _).mono ?_
  rintro e _ ⟨rfl, rfl⟩
  go_wp2_with fail
  go_ret
  exact ⟨rfl, bel⟩

set_option maxRecDepth 100000 in
set_option maxHeartbeats 2000000 in
theorem less_el (a b c d x1 y1 x2 y2 : Nat) (ha : a ≤ 9223372036854775807) (hb : b ≤ 9223372036854775807) (hc : c ≤ 9223372036854775807) (hd : d ≤ 9223372036854775807) (b1 : 1 ≤ b) (d1 : 1 ≤ d) (m1 : ∀ W : World, Calls Tryz.prog 73 #[.int .u64 (a : Int), .int .u64 (d : Int)] W fun e w' => e = .returned (.tuple #[.int .u64 (x1 : Int), .int .u64 (y1 : Int)]) ∧ w' = W) (m2 : ∀ W : World, Calls Tryz.prog 73 #[.int .u64 (c : Int), .int .u64 (b : Int)] W fun e w' => e = .returned (.tuple #[.int .u64 (x2 : Int), .int .u64 (y2 : Int)]) ∧ w' = W) (k0 : x1 = x2) (k : y1 < y2) (w : World) :
    Calls Tryz.prog 42 #[.agg #[.int .i64 (a : Int), .int .i64 (b : Int)], .agg #[.int .i64 (c : Int), .int .i64 (d : Int)]] w fun e w' => e = .returned (.bool true) ∧ Below w.heap.size w w' := by
  have HF1 := Lib.hid (fun W => (by have h1 := isfrac_any (a : Int) (b : Int) W; rwa [decide_eq_true (show (0 : Int) ≤ (a : Int) ∧ 1 ≤ (b : Int) by omega)] at h1 : Calls Tryz.prog 71 #[.agg #[.int .i64 (a : Int), .int .i64 (b : Int)]] W fun e w' => e = .returned (.bool true) ∧ Below W.heap.size W w'))
  have HF2 := Lib.hid (fun W => (by have h1 := isfrac_any (c : Int) (d : Int) W; rwa [decide_eq_true (show (0 : Int) ≤ (c : Int) ∧ 1 ≤ (d : Int) by omega)] at h1 : Calls Tryz.prog 71 #[.agg #[.int .i64 (c : Int), .int .i64 (d : Int)]] W fun e w' => e = .returned (.bool true) ∧ Below W.heap.size W w'))
  have w_a : IntKind.u64.wrap (a : Int) = (a : Int) := Mul64.wrapN a (by omega)
  have w_b : IntKind.u64.wrap (b : Int) = (b : Int) := Mul64.wrapN b (by omega)
  have w_c : IntKind.u64.wrap (c : Int) = (c : Int) := Mul64.wrapN c (by omega)
  have w_d : IntKind.u64.wrap (d : Int) = (d : Int) := Mul64.wrapN d (by omega)
  have M1 := Lib.hid m1
  have M2 := Lib.hid m2
  clear m1 m2
  have q1 : decide ((x1 : Int) < (x2 : Int)) = false := decide_eq_false (by omega)
  have q2 : ((x1 : Int) == (x2 : Int)) = true := beq_iff_eq.2 (by omega)
  have q3 : decide ((y1 : Int) < (y2 : Int)) = true := decide_eq_true (by omega)
  have n1 : decide (x1 < x2) = false := decide_eq_false (by omega)
  have n3 : decide (y1 < y2) = true := decide_eq_true (by omega)
  clear k k0 ha hb hc hd b1 d1
  go_enter Tryz.func42, Tryz.ntmps42
  go_wp2_with fail
  have t1 : Two ((w.alloc (.cells #[.int .i64 (a : Int), .int .i64 (b : Int)] 47)).alloc (.cells #[.int .i64 (c : Int), .int .i64 (d : Int)] 47)) w.heap.size (.int .i64 (a : Int)) (.int .i64 (b : Int)) := (Two.new_ w (.int .i64 (a : Int)) (.int .i64 (b : Int)) 47).alloc _
  have t2 : Two ((w.alloc (.cells #[.int .i64 (a : Int), .int .i64 (b : Int)] 47)).alloc (.cells #[.int .i64 (c : Int), .int .i64 (d : Int)] 47)) (w.heap.size + 1) (.int .i64 (c : Int)) (.int .i64 (d : Int)) := by simpa only [World.size_alloc, Nat.add_assoc, Nat.reduceAdd] using Two.new_ (w.alloc (.cells #[.int .i64 (a : Int), .int .i64 (b : Int)] 47)) (.int .i64 (c : Int)) (.int .i64 (d : Int)) 47
  have bel : Below w.heap.size w ((w.alloc (.cells #[.int .i64 (a : Int), .int .i64 (b : Int)] 47)).alloc (.cells #[.int .i64 (c : Int), .int .i64 (d : Int)] 47)) := ((Below.refl _ _).alloc (Nat.le_refl _) _).alloc (by simp only [World.size_alloc]; omega) _
  generalize ((w.alloc (.cells #[.int .i64 (a : Int), .int .i64 (b : Int)] 47)).alloc (.cells #[.int .i64 (c : Int), .int .i64 (d : Int)] 47)) = wx at t1 t2 bel ⊢
  have t1_0 := t1.c0
  have t1_1 := t1.c1
  go_wp2_with fail
  refine (HF1.out _).mono ?_
  rintro e w2 ⟨rfl, hb⟩
  clear t1_0 t1_1
  replace t1 := t1.below hb t1.lt
  replace t2 := t2.below hb t2.lt
  replace bel := bel.trans (hb.mono bel.size)
  clear hb
  have t2_0 := t2.c0
  have t2_1 := t2.c1
  go_wp2_with fail
  refine (HF2.out _).mono ?_
  rintro e w3 ⟨rfl, hb⟩
  clear t2_0 t2_1
  replace t1 := t1.below hb t1.lt
  replace t2 := t2.below hb t2.lt
  replace bel := bel.trans (hb.mono bel.size)
  clear hb
  have t1_0 := t1.c0
  have t1_1 := t1.c1
  have t2_0 := t2.c0
  have t2_1 := t2.c1
  go_wp2_with fail
  refine (M1.out _).mono ?_
  rintro e _ ⟨rfl, rfl⟩
  go_wp2_with fail
  refine (M2.out _).mono ?_
  rintro e _ ⟨rfl, rfl⟩
  go_wp2_with fail
  go_ret
  exact ⟨rfl, bel⟩

set_option maxRecDepth 100000 in
set_option maxHeartbeats 2000000 in
theorem less_eg (a b c d x1 y1 x2 y2 : Nat) (ha : a ≤ 9223372036854775807) (hb : b ≤ 9223372036854775807) (hc : c ≤ 9223372036854775807) (hd : d ≤ 9223372036854775807) (b1 : 1 ≤ b) (d1 : 1 ≤ d) (m1 : ∀ W : World, Calls Tryz.prog 73 #[.int .u64 (a : Int), .int .u64 (d : Int)] W fun e w' => e = .returned (.tuple #[.int .u64 (x1 : Int), .int .u64 (y1 : Int)]) ∧ w' = W) (m2 : ∀ W : World, Calls Tryz.prog 73 #[.int .u64 (c : Int), .int .u64 (b : Int)] W fun e w' => e = .returned (.tuple #[.int .u64 (x2 : Int), .int .u64 (y2 : Int)]) ∧ w' = W) (k0 : x1 = x2) (k : ¬ y1 < y2) (w : World) :
    Calls Tryz.prog 42 #[.agg #[.int .i64 (a : Int), .int .i64 (b : Int)], .agg #[.int .i64 (c : Int), .int .i64 (d : Int)]] w fun e w' => e = .returned (.bool false) ∧ Below w.heap.size w w' := by
  have HF1 := Lib.hid (fun W => (by have h1 := isfrac_any (a : Int) (b : Int) W; rwa [decide_eq_true (show (0 : Int) ≤ (a : Int) ∧ 1 ≤ (b : Int) by omega)] at h1 : Calls Tryz.prog 71 #[.agg #[.int .i64 (a : Int), .int .i64 (b : Int)]] W fun e w' => e = .returned (.bool true) ∧ Below W.heap.size W w'))
  have HF2 := Lib.hid (fun W => (by have h1 := isfrac_any (c : Int) (d : Int) W; rwa [decide_eq_true (show (0 : Int) ≤ (c : Int) ∧ 1 ≤ (d : Int) by omega)] at h1 : Calls Tryz.prog 71 #[.agg #[.int .i64 (c : Int), .int .i64 (d : Int)]] W fun e w' => e = .returned (.bool true) ∧ Below W.heap.size W w'))
  have w_a : IntKind.u64.wrap (a : Int) = (a : Int) := Mul64.wrapN a (by omega)
  have w_b : IntKind.u64.wrap (b : Int) = (b : Int) := Mul64.wrapN b (by omega)
  have w_c : IntKind.u64.wrap (c : Int) = (c : Int) := Mul64.wrapN c (by omega)
  have w_d : IntKind.u64.wrap (d : Int) = (d : Int) := Mul64.wrapN d (by omega)
  have M1 := Lib.hid m1
  have M2 := Lib.hid m2
  clear m1 m2
  have q1 : decide ((x1 : Int) < (x2 : Int)) = false := decide_eq_false (by omega)
  have q2 : ((x1 : Int) == (x2 : Int)) = true := beq_iff_eq.2 (by omega)
  have q3 : decide ((y1 : Int) < (y2 : Int)) = false := decide_eq_false (by omega)
  have n1 : decide (x1 < x2) = false := decide_eq_false (by omega)
  have n3 : decide (y1 < y2) = false := decide_eq_false (by omega)
  clear k k0 ha hb hc hd b1 d1
  go_enter Tryz.func42, Tryz.ntmps42
  go_wp2_with fail
  have t1 : Two ((w.alloc (.cells #[.int .i64 (a : Int), .int .i64 (b : Int)] 47)).alloc (.cells #[.int .i64 (c : Int), .int .i64 (d : Int)] 47)) w.heap.size (.int .i64 (a : Int)) (.int .i64 (b : Int)) := (Two.new_ w (.int .i64 (a : Int)) (.int .i64 (b : Int)) 47).alloc _
  have t2 : Two ((w.alloc (.cells #[.int .i64 (a : Int), .int .i64 (b : Int)] 47)).alloc (.cells #[.int .i64 (c : Int), .int .i64 (d : Int)] 47)) (w.heap.size + 1) (.int .i64 (c : Int)) (.int .i64 (d : Int)) := by simpa only [World.size_alloc, Nat.add_assoc, Nat.reduceAdd] using Two.new_ (w.alloc (.cells #[.int .i64 (a : Int), .int .i64 (b : Int)] 47)) (.int .i64 (c : Int)) (.int .i64 (d : Int)) 47
  have bel : Below w.heap.size w ((w.alloc (.cells #[.int .i64 (a : Int), .int .i64 (b : Int)] 47)).alloc (.cells #[.int .i64 (c : Int), .int .i64 (d : Int)] 47)) := ((Below.refl _ _).alloc (Nat.le_refl _) _).alloc (by simp only [World.size_alloc]; omega) _
  generalize ((w.alloc (.cells #[.int .i64 (a : Int), .int .i64 (b : Int)] 47)).alloc (.cells #[.int .i64 (c : Int), .int .i64 (d : Int)] 47)) = wx at t1 t2 bel ⊢
  have t1_0 := t1.c0
  have t1_1 := t1.c1
  go_wp2_with fail
  refine (HF1.out _).mono ?_
  rintro e w2 ⟨rfl, hb⟩
  clear t1_0 t1_1
  replace t1 := t1.below hb t1.lt
  replace t2 := t2.below hb t2.lt
  replace bel := bel.trans (hb.mono bel.size)
  clear hb
  have t2_0 := t2.c0
  have t2_1 := t2.c1
  go_wp2_with fail
  refine (HF2.out _).mono ?_
  rintro e w3 ⟨rfl, hb⟩
  clear t2_0 t2_1
  replace t1 := t1.below hb t1.lt
  replace t2 := t2.below hb t2.lt
  replace bel := bel.trans (hb.mono bel.size)
  clear hb
  have t1_0 := t1.c0
  have t1_1 := t1.c1
  have t2_0 := t2.c0
  have t2_1 := t2.c1
  go_wp2_with fail
  refine (M1.out _).mono ?_
  rintro e _ ⟨rfl, rfl⟩
  go_wp2_with fail
  refine (M2.out _).mono ?_
  rintro e _ ⟨rfl, rfl⟩
  go_wp2_with fail
  go_ret
  exact ⟨rfl, bel⟩

theorem less_any (a b c d : Int) (ha : a ≤ 9223372036854775807) (hb : b ≤ 9223372036854775807) (hc : c ≤ 9223372036854775807) (hd : d ≤ 9223372036854775807) (w : World) :
    Calls Tryz.prog 42 #[.agg #[.int .i64 a, .int .i64 b], .agg #[.int .i64 c, .int .i64 d]] w fun e w' => e = .returned (.bool (lessF a b c d)) ∧ Below w.heap.size w w' := by
  by_cases h1 : 0 ≤ a ∧ 1 ≤ b
  · by_cases h2 : 0 ≤ c ∧ 1 ≤ d
    · obtain ⟨A, rfl⟩ := Int.eq_ofNat_of_zero_le h1.1
      obtain ⟨B, rfl⟩ := Int.eq_ofNat_of_zero_le (show 0 ≤ b by omega)
      obtain ⟨C, rfl⟩ := Int.eq_ofNat_of_zero_le h2.1
      obtain ⟨D, rfl⟩ := Int.eq_ofNat_of_zero_le (show 0 ≤ d by omega)
      obtain ⟨x1, y1, e1, l1, m1⟩ := gmul64 A D (by omega) (by omega)
      obtain ⟨x2, y2, e2, l2, m2⟩ := gmul64 C B (by omega) (by omega)
      have key : lessF (A : Int) B C D = decide (A * D < C * B) := by
        unfold lessF; rw [decide_eq_decide]
        constructor
        · intro h; have := h.2.2; exact_mod_cast this
        · intro h; exact ⟨h1, h2, by exact_mod_cast h⟩
      rw [key]
      have hA : A ≤ 9223372036854775807 := by omega
      have hB : B ≤ 9223372036854775807 := by omega
      have hC : C ≤ 9223372036854775807 := by omega
      have hD : D ≤ 9223372036854775807 := by omega
      have b1 : 1 ≤ B := by omega
      have d1 : 1 ≤ D := by omega
      by_cases k : x1 < x2
      · rw [decide_eq_true (show A * D < C * B by rw [← e1, ← e2]; omega)]; exact less_lt A B C D x1 y1 x2 y2 hA hB hC hD b1 d1 m1 m2 k w
      · by_cases k2 : x2 < x1
        · rw [decide_eq_false (show ¬ A * D < C * B by rw [← e1, ← e2]; omega)]; exact less_gt A B C D x1 y1 x2 y2 hA hB hC hD b1 d1 m1 m2 k2 w
        · have k0 : x1 = x2 := by omega
          by_cases k3 : y1 < y2
          · rw [decide_eq_true (show A * D < C * B by rw [← e1, ← e2]; omega)]; exact less_el A B C D x1 y1 x2 y2 hA hB hC hD b1 d1 m1 m2 k0 k3 w
          · rw [decide_eq_false (show ¬ A * D < C * B by rw [← e1, ← e2]; omega)]; exact less_eg A B C D x1 y1 x2 y2 hA hB hC hD b1 d1 m1 m2 k0 k3 w
    · rw [show lessF a b c d = false from decide_eq_false (fun h => h2 h.2.1)]; exact less_bad2 a b c d h1 h2 w
  · rw [show lessF a b c d = false from decide_eq_false (fun h => h1 h.1)]; exact less_bad1 a b c d h1 w
end Go.Proofs.YtpfaddgcfacgdaaGreatDoor
/- Walks of package rational: FromFrac of both. -/
namespace Go.Proofs.YtpfaddgcfacgdaaGreatDoor
open Go.RowKit
set_option linter.unusedVariables false

set_option maxRecDepth 100000 in
set_option maxHeartbeats 2000000 in
theorem ff_ok (a b : Int) (ha : -9223372036854775808 ≤ a ∧ a ≤ 9223372036854775807) (hb : -9223372036854775808 ≤ b ∧ b ≤ 9223372036854775807) (h : 0 ≤ a ∧ 1 ≤ b) (w : World) :
    Calls Tryz.prog 40 #[.agg #[.int .i64 a, .int .i64 b]] w (GRc (Rat.divInt a b) 2 w) := by
  obtain ⟨z, hz⟩ : ∃ z, z = Rat.divInt a b := ⟨_, rfl⟩
  rw [← hz]
  have HOF := Lib.hid (fun (W : World) => (by have h := gofr ha hb (by omega) W; rw [← hz] at h; exact h : Calls Tryz.prog 19 #[.int .i64 a, .int .i64 b] W (GRc z 2 W)))
  have HF1 := Lib.hid (fun W => (by have h1 := isfrac_any a b W; rwa [decide_eq_true h] at h1 : Calls Tryz.prog 71 #[.agg #[.int .i64 a, .int .i64 b]] W fun e w' => e = .returned (.bool true) ∧ Below W.heap.size W w'))
  clear ha hb h hz
  go_enter Tryz.func40, Tryz.ntmps40
  go_wp2_with fail
  have t1 : Two ((w.alloc (.cells #[.int .i64 a, .int .i64 b] 47)).alloc (.cells #[.bool false, .slice none 0 0, .bool false, .slice none 0 0] 26)) w.heap.size (.int .i64 a) (.int .i64 b) := (Two.new_ w (.int .i64 a) (.int .i64 b) 47).alloc _
  have t2 : Four ((w.alloc (.cells #[.int .i64 a, .int .i64 b] 47)).alloc (.cells #[.bool false, .slice none 0 0, .bool false, .slice none 0 0] 26)) (w.heap.size + 1) (.bool false) (.slice none 0 0) (.bool false) (.slice none 0 0) := by simpa only [World.size_alloc, Nat.add_assoc, Nat.reduceAdd] using Four.new_ (w.alloc (.cells #[.int .i64 a, .int .i64 b] 47)) (.bool false) (.slice none 0 0) (.bool false) (.slice none 0 0) 26
  have bel : Below w.heap.size w ((w.alloc (.cells #[.int .i64 a, .int .i64 b] 47)).alloc (.cells #[.bool false, .slice none 0 0, .bool false, .slice none 0 0] 26)) := ((Below.refl _ _).alloc (Nat.le_refl _) _).alloc (by simp only [World.size_alloc]; omega) _
  generalize ((w.alloc (.cells #[.int .i64 a, .int .i64 b] 47)).alloc (.cells #[.bool false, .slice none 0 0, .bool false, .slice none 0 0] 26)) = wx at t1 t2 bel ⊢
  have t1_0 := t1.c0
  have t1_1 := t1.c1
  go_wp2_with fail
  refine (HF1.out _).mono ?_
  rintro e w2 ⟨rfl, hb⟩
  clear t1_0 t1_1
  replace t1 := t1.below hb t1.lt
  replace t2 := t2.below hb t2.lt
  replace bel := bel.trans (hb.mono bel.size)
  clear hb
  have t1_0 := t1.c0
  have t1_1 := t1.c1
  go_wp2_with fail
  refine (HOF.out _).mono ?_
  rintro e w3 ⟨A5, c5, l5, A6, c6, l6, rfl, CC, hb⟩
  clear t1_0 t1_1
  replace t1 := t1.below hb t1.lt
  replace t2 := t2.below hb t2.lt
  replace bel := bel.trans (hb.mono bel.size)
  clear hb
  have d0 := t2.c0
  have d1 := t2.c1
  have d2 := t2.c2
  have d3 := t2.c3
  have f0 := t2.fr 0
  have f1 := t2.fr 1
  have f2 := t2.fr 2
  have f3 := t2.fr 3
  have R := Lib.hid (t2.put (.bool (decide (z.num < 0))) (.slice A5 l5.length c5) (.bool false) (.slice A6 l6.length c6))
  have CR := Lib.hid (CC.put4 t2 (.bool (decide (z.num < 0))) (.slice A5 l5.length c5) (.bool false) (.slice A6 l6.length c6))
  have BL := Lib.hid (below_set4 bel (b := w.heap.size + 1) (by omega) (.bool (decide (z.num < 0))) (.slice A5 l5.length c5) (.bool false) (.slice A6 l6.length c6))
  clear t1 t2 bel CC
  go_wp2_with fail
  have r0 := R.out.c0
  have r1 := R.out.c1
  have r2 := R.out.c2
  have r3 := R.out.c3
  unfold set4 at r0 r1 r2 r3
  refine bodyPost_ret (v := .tuple #[.agg #[.bool (decide (z.num < 0)), .slice A5 l5.length c5, .bool false, .slice A6 l6.length c6], .int .i64 0]) (by simp [results, Tryz.results40, go_sem, r0, r1, r2, r3]) rfl ?_
  exact ⟨A5, c5, l5, A6, c6, l6, rfl, CR.out, BL.out⟩

set_option maxRecDepth 100000 in
set_option maxHeartbeats 2000000 in
theorem ff_bad (a b : Int) (h : ¬ (0 ≤ a ∧ 1 ≤ b)) (w : World) :
    Calls Tryz.prog 40 #[.agg #[.int .i64 a, .int .i64 b]] w fun e w' => e = .returned (.tuple #[ratV false none 0 0 false none 0 0, .int .i64 3]) ∧ Below w.heap.size w w' := by
  have HF1 := Lib.hid (fun W => (by have h1 := isfrac_any a b W; rwa [decide_eq_false h] at h1 : Calls Tryz.prog 71 #[.agg #[.int .i64 a, .int .i64 b]] W fun e w' => e = .returned (.bool false) ∧ Below W.heap.size W w'))
  clear h
  unfold ratV
  go_enter Tryz.func40, Tryz.ntmps40
  go_wp2_with fail
  have t1 : Two ((w.alloc (.cells #[.int .i64 a, .int .i64 b] 47)).alloc (.cells #[.bool false, .slice none 0 0, .bool false, .slice none 0 0] 26)) w.heap.size (.int .i64 a) (.int .i64 b) := (Two.new_ w (.int .i64 a) (.int .i64 b) 47).alloc _
  have t2 : Four ((w.alloc (.cells #[.int .i64 a, .int .i64 b] 47)).alloc (.cells #[.bool false, .slice none 0 0, .bool false, .slice none 0 0] 26)) (w.heap.size + 1) (.bool false) (.slice none 0 0) (.bool false) (.slice none 0 0) := by simpa only [World.size_alloc, Nat.add_assoc, Nat.reduceAdd] using Four.new_ (w.alloc (.cells #[.int .i64 a, .int .i64 b] 47)) (.bool false) (.slice none 0 0) (.bool false) (.slice none 0 0) 26
  have bel : Below w.heap.size w ((w.alloc (.cells #[.int .i64 a, .int .i64 b] 47)).alloc (.cells #[.bool false, .slice none 0 0, .bool false, .slice none 0 0] 26)) := ((Below.refl _ _).alloc (Nat.le_refl _) _).alloc (by simp only [World.size_alloc]; omega) _
  generalize ((w.alloc (.cells #[.int .i64 a, .int .i64 b] 47)).alloc (.cells #[.bool false, .slice none 0 0, .bool false, .slice none 0 0] 26)) = wx at t1 t2 bel ⊢
  have t1_0 := t1.c0
  have t1_1 := t1.c1
  go_wp2_with fail
  refine (HF1.out _).mono ?_
  rintro e w2 ⟨rfl, hb⟩
  clear t1_0 t1_1
  replace t1 := t1.below hb t1.lt
  replace t2 := t2.below hb t2.lt
  replace bel := bel.trans (hb.mono bel.size)
  clear hb
  have d0 := t2.c0
  have d1 := t2.c1
  have d2 := t2.c2
  have d3 := t2.c3
  have f0 := t2.fr 0
  have f1 := t2.fr 1
  have f2 := t2.fr 2
  have f3 := t2.fr 3
  have R := Lib.hid (t2.put (.bool false) (.slice none 0 0) (.bool false) (.slice none 0 0))
  have BL := Lib.hid (below_set4 bel (b := w.heap.size + 1) (by omega) (.bool false) (.slice none 0 0) (.bool false) (.slice none 0 0))
  clear t1 t2 bel
  go_wp2_with fail
  have r0 := R.out.c0
  have r1 := R.out.c1
  have r2 := R.out.c2
  have r3 := R.out.c3
  unfold set4 at r0 r1 r2 r3
  refine bodyPost_ret (v := .tuple #[.agg #[.bool false, .slice none 0 0, .bool false, .slice none 0 0], .int .i64 3]) (by simp [results, Tryz.results40, go_sem, r0, r1, r2, r3]) rfl ?_
  exact ⟨rfl, BL.out⟩

set_option maxRecDepth 100000 in
set_option maxHeartbeats 2000000 in
theorem rff_ok (a b : Int) (ha : -9223372036854775808 ≤ a ∧ a ≤ 9223372036854775807) (hb : -9223372036854775808 ≤ b ∧ b ≤ 9223372036854775807) (h : 0 ≤ a ∧ 1 ≤ b) (w : World) :
    Calls Tryz.prog 41 #[.agg #[.int .i64 a, .int .i64 b]] w (GRc (Rat.divInt a b) 2 w) := by
  obtain ⟨z, hz⟩ : ∃ z, z = Rat.divInt a b := ⟨_, rfl⟩
  rw [← hz]
  have HOF := Lib.hid (fun (W : World) => (by have h := grofr ha hb (by omega) W; rw [← hz] at h; exact h : Calls Tryz.prog 20 #[.int .i64 a, .int .i64 b] W (GRc z 2 W)))
  have q1 : decide (a < 0) = false := decide_eq_false (by omega)
  have q2 : decide (b < 1) = false := decide_eq_false (by omega)
  clear ha hb h hz
  go_enter Tryz.func41, Tryz.ntmps41
  go_wp2_with fail
  have t1 : Two ((w.alloc (.cells #[.int .i64 a, .int .i64 b] 47)).alloc (.cells #[.bool false, .slice none 0 0, .bool false, .slice none 0 0] 26)) w.heap.size (.int .i64 a) (.int .i64 b) := (Two.new_ w (.int .i64 a) (.int .i64 b) 47).alloc _
  have t2 : Four ((w.alloc (.cells #[.int .i64 a, .int .i64 b] 47)).alloc (.cells #[.bool false, .slice none 0 0, .bool false, .slice none 0 0] 26)) (w.heap.size + 1) (.bool false) (.slice none 0 0) (.bool false) (.slice none 0 0) := by simpa only [World.size_alloc, Nat.add_assoc, Nat.reduceAdd] using Four.new_ (w.alloc (.cells #[.int .i64 a, .int .i64 b] 47)) (.bool false) (.slice none 0 0) (.bool false) (.slice none 0 0) 26
  have bel : Below w.heap.size w ((w.alloc (.cells #[.int .i64 a, .int .i64 b] 47)).alloc (.cells #[.bool false, .slice none 0 0, .bool false, .slice none 0 0] 26)) := ((Below.refl _ _).alloc (Nat.le_refl _) _).alloc (by simp only [World.size_alloc]; omega) _
  generalize ((w.alloc (.cells #[.int .i64 a, .int .i64 b] 47)).alloc (.cells #[.bool false, .slice none 0 0, .bool false, .slice none 0 0] 26)) = wx at t1 t2 bel ⊢
  have t1_0 := t1.c0
  have t1_1 := t1.c1
  go_wp2_with fail
  refine (HOF.out _).mono ?_
  rintro e w2 ⟨A5, c5, l5, A6, c6, l6, rfl, CC, hb⟩
  clear t1_0 t1_1
  replace t1 := t1.below hb t1.lt
  replace t2 := t2.below hb t2.lt
  replace bel := bel.trans (hb.mono bel.size)
  clear hb
  have d0 := t2.c0
  have d1 := t2.c1
  have d2 := t2.c2
  have d3 := t2.c3
  have f0 := t2.fr 0
  have f1 := t2.fr 1
  have f2 := t2.fr 2
  have f3 := t2.fr 3
  have R := Lib.hid (t2.put (.bool (decide (z.num < 0))) (.slice A5 l5.length c5) (.bool false) (.slice A6 l6.length c6))
  have CR := Lib.hid (CC.put4 t2 (.bool (decide (z.num < 0))) (.slice A5 l5.length c5) (.bool false) (.slice A6 l6.length c6))
  have BL := Lib.hid (below_set4 bel (b := w.heap.size + 1) (by omega) (.bool (decide (z.num < 0))) (.slice A5 l5.length c5) (.bool false) (.slice A6 l6.length c6))
  clear t1 t2 bel CC
  go_wp2_with fail
  have r0 := R.out.c0
  have r1 := R.out.c1
  have r2 := R.out.c2
  have r3 := R.out.c3
  unfold set4 at r0 r1 r2 r3
  refine bodyPost_ret (v := .tuple #[.agg #[.bool (decide (z.num < 0)), .slice A5 l5.length c5, .bool false, .slice A6 l6.length c6], .int .i64 0]) (by simp [results, Tryz.results41, go_sem, r0, r1, r2, r3]) rfl ?_
  exact ⟨A5, c5, l5, A6, c6, l6, rfl, CR.out, BL.out⟩

set_option maxRecDepth 100000 in
set_option maxHeartbeats 2000000 in
theorem rff_bad1 (a b : Int) (h : a < 0) (w : World) :
    Calls Tryz.prog 41 #[.agg #[.int .i64 a, .int .i64 b]] w fun e w' => e = .returned (.tuple #[ratV false none 0 0 false none 0 0, .int .i64 3]) ∧ Below w.heap.size w w' := by
  have q1 : decide (a < 0) = true := decide_eq_true (by omega)
  clear h
  unfold ratV
  go_enter Tryz.func41, Tryz.ntmps41
  go_wp2_with fail
  have t1 : Two ((w.alloc (.cells #[.int .i64 a, .int .i64 b] 47)).alloc (.cells #[.bool false, .slice none 0 0, .bool false, .slice none 0 0] 26)) w.heap.size (.int .i64 a) (.int .i64 b) := (Two.new_ w (.int .i64 a) (.int .i64 b) 47).alloc _
  have t2 : Four ((w.alloc (.cells #[.int .i64 a, .int .i64 b] 47)).alloc (.cells #[.bool false, .slice none 0 0, .bool false, .slice none 0 0] 26)) (w.heap.size + 1) (.bool false) (.slice none 0 0) (.bool false) (.slice none 0 0) := by simpa only [World.size_alloc, Nat.add_assoc, Nat.reduceAdd] using Four.new_ (w.alloc (.cells #[.int .i64 a, .int .i64 b] 47)) (.bool false) (.slice none 0 0) (.bool false) (.slice none 0 0) 26
  have bel : Below w.heap.size w ((w.alloc (.cells #[.int .i64 a, .int .i64 b] 47)).alloc (.cells #[.bool false, .slice none 0 0, .bool false, .slice none 0 0] 26)) := ((Below.refl _ _).alloc (Nat.le_refl _) _).alloc (by simp only [World.size_alloc]; omega) _
  generalize ((w.alloc (.cells #[.int .i64 a, .int .i64 b] 47)).alloc (.cells #[.bool false, .slice none 0 0, .bool false, .slice none 0 0] 26)) = wx at t1 t2 bel ⊢
  have t1_0 := t1.c0
  have t1_1 := t1.c1
  have d0 := t2.c0
  have d1 := t2.c1
  have d2 := t2.c2
  have d3 := t2.c3
  refine bodyPost_ret (v := .tuple #[.agg #[.bool false, .slice none 0 0, .bool false, .slice none 0 0], .int .i64 3]) (by simp [results, Tryz.results41, go_sem, d0, d1, d2, d3]) rfl ?_
  exact ⟨rfl, bel⟩

set_option maxRecDepth 100000 in
set_option maxHeartbeats 2000000 in
theorem rff_bad2 (a b : Int) (h : 0 ≤ a ∧ b < 1) (w : World) :
    Calls Tryz.prog 41 #[.agg #[.int .i64 a, .int .i64 b]] w fun e w' => e = .returned (.tuple #[ratV false none 0 0 false none 0 0, .int .i64 3]) ∧ Below w.heap.size w w' := by
  have q1 : decide (a < 0) = false := decide_eq_false (by omega)
  have q2 : decide (b < 1) = true := decide_eq_true (by omega)
  clear h
  unfold ratV
  go_enter Tryz.func41, Tryz.ntmps41
  go_wp2_with fail
  have t1 : Two ((w.alloc (.cells #[.int .i64 a, .int .i64 b] 47)).alloc (.cells #[.bool false, .slice none 0 0, .bool false, .slice none 0 0] 26)) w.heap.size (.int .i64 a) (.int .i64 b) := (Two.new_ w (.int .i64 a) (.int .i64 b) 47).alloc _
  have t2 : Four ((w.alloc (.cells #[.int .i64 a, .int .i64 b] 47)).alloc (.cells #[.bool false, .slice none 0 0, .bool false, .slice none 0 0] 26)) (w.heap.size + 1) (.bool false) (.slice none 0 0) (.bool false) (.slice none 0 0) := by simpa only [World.size_alloc, Nat.add_assoc, Nat.reduceAdd] using Four.new_ (w.alloc (.cells #[.int .i64 a, .int .i64 b] 47)) (.bool false) (.slice none 0 0) (.bool false) (.slice none 0 0) 26
  have bel : Below w.heap.size w ((w.alloc (.cells #[.int .i64 a, .int .i64 b] 47)).alloc (.cells #[.bool false, .slice none 0 0, .bool false, .slice none 0 0] 26)) := ((Below.refl _ _).alloc (Nat.le_refl _) _).alloc (by simp only [World.size_alloc]; omega) _
  generalize ((w.alloc (.cells #[.int .i64 a, .int .i64 b] 47)).alloc (.cells #[.bool false, .slice none 0 0, .bool false, .slice none 0 0] 26)) = wx at t1 t2 bel ⊢
  have t1_0 := t1.c0
  have t1_1 := t1.c1
  have d0 := t2.c0
  have d1 := t2.c1
  have d2 := t2.c2
  have d3 := t2.c3
  refine bodyPost_ret (v := .tuple #[.agg #[.bool false, .slice none 0 0, .bool false, .slice none 0 0], .int .i64 3]) (by simp [results, Tryz.results41, go_sem, d0, d1, d2, d3]) rfl ?_
  exact ⟨rfl, bel⟩

theorem rff_bad (a b : Int) (h : ¬ (0 ≤ a ∧ 1 ≤ b)) (w : World) :
    Calls Tryz.prog 41 #[.agg #[.int .i64 a, .int .i64 b]] w fun e w' => e = .returned (.tuple #[ratV false none 0 0 false none 0 0, .int .i64 3]) ∧ Below w.heap.size w w' := by
  by_cases h1 : a < 0
  · exact rff_bad1 a b h1 w
  · exact rff_bad2 a b (by omega) w
end Go.Proofs.YtpfaddgcfacgdaaGreatDoor
/- Walks of package rational: Less of the reference. -/
namespace Go.Proofs.YtpfaddgcfacgdaaGreatDoor
open Go.RowKit
set_option linter.unusedVariables false

set_option maxRecDepth 100000 in
set_option maxHeartbeats 2000000 in
theorem rless_oo (a b c d : Int) (ha : -9223372036854775808 ≤ a ∧ a ≤ 9223372036854775807) (hb : -9223372036854775808 ≤ b ∧ b ≤ 9223372036854775807) (hc : -9223372036854775808 ≤ c ∧ c ≤ 9223372036854775807) (hd : -9223372036854775808 ≤ d ∧ d ≤ 9223372036854775807) (h1 : 0 ≤ a ∧ 1 ≤ b) (h2 : 0 ≤ c ∧ 1 ≤ d) (w : World) :
    Calls Tryz.prog 43 #[.agg #[.int .i64 a, .int .i64 b], .agg #[.int .i64 c, .int .i64 d]] w fun e w' => e = .returned (.bool (lessF a b c d)) ∧ Below w.heap.size w w' := by
  obtain ⟨z1, hz1⟩ : ∃ z, z = Rat.divInt a b := ⟨_, rfl⟩
  have HX1 := Lib.hid (fun (W : World) => (by have h := rff_ok a b ha hb h1 W; rw [← hz1] at h; exact h : Calls Tryz.prog 41 #[.agg #[.int .i64 a, .int .i64 b]] W (GRc z1 2 W)))
  obtain ⟨z2, hz2⟩ : ∃ z, z = Rat.divInt c d := ⟨_, rfl⟩
  have HX2 := Lib.hid (fun (W : World) => (by have h := rff_ok c d hc hd h2 W; rw [← hz2] at h; exact h : Calls Tryz.prog 41 #[.agg #[.int .i64 c, .int .i64 d]] W (GRc z2 2 W)))
  obtain ⟨s, hs⟩ : ∃ s, s = (z1 - z2).num.sign := ⟨_, rfl⟩
  have HCP := Lib.hid (fun (W : World) (A : Option Addr) (c : Nat) (l : List Nat) (Bb : Option Addr) (d : Nat) (m : List Nat) (A' : Option Addr) (c' : Nat) (l' : List Nat) (B' : Option Addr) (d' : Nat) (m' : List Nat) (h : Cr W A c l Bb d m z1 2) (h' : Cr W A' c' l' B' d' m' z2 2) => (by have h := rrcmp h.rv h'.rv (by decide) (by decide) (by decide) (by decide); rw [← hs] at h; exact h : Calls Tryz.prog 34 #[.agg #[.bool (decide (z1.num < 0)), .slice A l.length c, .bool false, .slice Bb m.length d], .agg #[.bool (decide (z2.num < 0)), .slice A' l'.length c', .bool false, .slice B' m'.length d']] W fun e w' => e = .returned (.int .i64 s) ∧ Below W.heap.size W w'))
  obtain ⟨F, hF⟩ : ∃ F, F = lessF a b c d := ⟨_, rfl⟩
  rw [← hF]
  have sF : decide (s < 0) = F := by
    rw [hF, hs, hz1, hz2, rq_cmp (x1 := a) (y1 := b) (x2 := c) (y2 := d) (by omega) (by omega)]
    unfold lessF
    rw [decide_eq_decide, Int.sign_neg_iff]
    constructor
    · intro hq; exact ⟨h1, h2, by omega⟩
    · intro hq; have := hq.2.2; omega
  clear h1 h2 ha hb hc hd hz1 hz2 hs hF
  go_enter Tryz.func43, Tryz.ntmps43
  go_wp2_with fail
  have t1 : Two ((w.alloc (.cells #[.int .i64 a, .int .i64 b] 47)).alloc (.cells #[.int .i64 c, .int .i64 d] 47)) w.heap.size (.int .i64 a) (.int .i64 b) := (Two.new_ w (.int .i64 a) (.int .i64 b) 47).alloc _
  have t2 : Two ((w.alloc (.cells #[.int .i64 a, .int .i64 b] 47)).alloc (.cells #[.int .i64 c, .int .i64 d] 47)) (w.heap.size + 1) (.int .i64 c) (.int .i64 d) := by simpa only [World.size_alloc, Nat.add_assoc, Nat.reduceAdd] using Two.new_ (w.alloc (.cells #[.int .i64 a, .int .i64 b] 47)) (.int .i64 c) (.int .i64 d) 47
  have bel : Below w.heap.size w ((w.alloc (.cells #[.int .i64 a, .int .i64 b] 47)).alloc (.cells #[.int .i64 c, .int .i64 d] 47)) := ((Below.refl _ _).alloc (Nat.le_refl _) _).alloc (by simp only [World.size_alloc]; omega) _
  generalize ((w.alloc (.cells #[.int .i64 a, .int .i64 b] 47)).alloc (.cells #[.int .i64 c, .int .i64 d] 47)) = wx at t1 t2 bel ⊢
  have t1_0 := t1.c0
  have t1_1 := t1.c1
  go_wp2_with fail
  refine (HX1.out _).mono ?_
  rintro e w2 ⟨A3, c3, l3, B3, d3, m3, rfl, E3, hb⟩
  clear t1_0 t1_1
  replace t1 := t1.below hb t1.lt
  replace t2 := t2.below hb t2.lt
  replace bel := bel.trans (hb.mono bel.size)
  clear hb
  go_upto_region 2 with (fail)
  have hg3 : w.heap.size + 1 < w2.heap.size := t2.lt
  have t3 : Four (w2.alloc (.cells #[.bool (decide (z1.num < 0)), .slice A3 l3.length c3, .bool false, .slice B3 m3.length d3] 26)) w2.heap.size (.bool (decide (z1.num < 0))) (.slice A3 l3.length c3) (.bool false) (.slice B3 m3.length d3) := Four.new_ w2 (.bool (decide (z1.num < 0))) (.slice A3 l3.length c3) (.bool false) (.slice B3 m3.length d3) 26
  have bn : Below w2.heap.size w2 (w2.alloc (.cells #[.bool (decide (z1.num < 0)), .slice A3 l3.length c3, .bool false, .slice B3 m3.length d3] 26)) := (Below.refl _ _).alloc (Nat.le_refl _) _
  replace t1 := t1.below bn t1.lt
  replace t2 := t2.below bn t2.lt
  replace bel := bel.trans (bn.mono bel.size)
  replace E3 := E3.below bn
  clear bn
  generalize (w2.alloc (.cells #[.bool (decide (z1.num < 0)), .slice A3 l3.length c3, .bool false, .slice B3 m3.length d3] 26)) = v1 at t1 t2 bel E3 t3 ⊢
  generalize w2.heap.size = g3 at t1 t2 bel E3 t3 hg3 ⊢
  have t2_0 := t2.c0
  have t2_1 := t2.c1
  go_wp2_with fail
  refine (HX2.out _).mono ?_
  rintro e w3 ⟨A4, c4, l4, B4, d4, m4, rfl, E4, hb⟩
  clear t2_0 t2_1
  replace t1 := t1.below hb t1.lt
  replace t2 := t2.below hb t2.lt
  replace bel := bel.trans (hb.mono bel.size)
  replace E3 := E3.below hb
  replace t3 := t3.below hb t3.lt
  clear hb
  go_upto_region 3 with (fail)
  have hg4 : g3 < w3.heap.size := t3.lt
  have t4 : Four (w3.alloc (.cells #[.bool (decide (z2.num < 0)), .slice A4 l4.length c4, .bool false, .slice B4 m4.length d4] 26)) w3.heap.size (.bool (decide (z2.num < 0))) (.slice A4 l4.length c4) (.bool false) (.slice B4 m4.length d4) := Four.new_ w3 (.bool (decide (z2.num < 0))) (.slice A4 l4.length c4) (.bool false) (.slice B4 m4.length d4) 26
  have bn : Below w3.heap.size w3 (w3.alloc (.cells #[.bool (decide (z2.num < 0)), .slice A4 l4.length c4, .bool false, .slice B4 m4.length d4] 26)) := (Below.refl _ _).alloc (Nat.le_refl _) _
  replace t1 := t1.below bn t1.lt
  replace t2 := t2.below bn t2.lt
  replace bel := bel.trans (bn.mono bel.size)
  replace E3 := E3.below bn
  replace t3 := t3.below bn t3.lt
  replace E4 := E4.below bn
  clear bn
  generalize (w3.alloc (.cells #[.bool (decide (z2.num < 0)), .slice A4 l4.length c4, .bool false, .slice B4 m4.length d4] 26)) = v2 at t1 t2 bel E3 t3 E4 t4 ⊢
  generalize w3.heap.size = g4 at t1 t2 bel E3 t3 E4 t4 hg4 ⊢
  have t3_0 := t3.c0
  have t3_1 := t3.c1
  have t3_2 := t3.c2
  have t3_3 := t3.c3
  have t4_0 := t4.c0
  have t4_1 := t4.c1
  have t4_2 := t4.c2
  have t4_3 := t4.c3
  go_wp2_with fail
  refine (HCP.out _ _ _ _ _ _ _ _ _ _ _ _ _ E3 E4).mono ?_
  rintro e w4 ⟨rfl, hb⟩
  clear t3_0 t3_1 t3_2 t3_3 t4_0 t4_1 t4_2 t4_3
  replace t1 := t1.below hb t1.lt
  replace t2 := t2.below hb t2.lt
  replace bel := bel.trans (hb.mono bel.size)
  replace E3 := E3.below hb
  replace t3 := t3.below hb t3.lt
  replace E4 := E4.below hb
  replace t4 := t4.below hb t4.lt
  clear hb
  go_wp2_with fail
  go_ret
  exact ⟨rfl, bel⟩

set_option maxRecDepth 100000 in
set_option maxHeartbeats 2000000 in
theorem rless_ob (a b c d : Int) (ha : -9223372036854775808 ≤ a ∧ a ≤ 9223372036854775807) (hb : -9223372036854775808 ≤ b ∧ b ≤ 9223372036854775807) (hc : -9223372036854775808 ≤ c ∧ c ≤ 9223372036854775807) (hd : -9223372036854775808 ≤ d ∧ d ≤ 9223372036854775807) (h1 : 0 ≤ a ∧ 1 ≤ b) (h2 : ¬ (0 ≤ c ∧ 1 ≤ d)) (w : World) :
    Calls Tryz.prog 43 #[.agg #[.int .i64 a, .int .i64 b], .agg #[.int .i64 c, .int .i64 d]] w fun e w' => e = .returned (.bool false) ∧ Below w.heap.size w w' := by
  obtain ⟨z1, hz1⟩ : ∃ z, z = Rat.divInt a b := ⟨_, rfl⟩
  have HX1 := Lib.hid (fun (W : World) => (by have h := rff_ok a b ha hb h1 W; rw [← hz1] at h; exact h : Calls Tryz.prog 41 #[.agg #[.int .i64 a, .int .i64 b]] W (GRc z1 2 W)))
  have HX2 := Lib.hid (fun (W : World) => (rff_bad c d h2 W : Calls Tryz.prog 41 #[.agg #[.int .i64 c, .int .i64 d]] W fun e w' => e = .returned (.tuple #[.agg #[.bool false, .slice none 0 0, .bool false, .slice none 0 0], .int .i64 3]) ∧ Below W.heap.size W w'))
  clear h1 h2 ha hb hc hd hz1
  go_enter Tryz.func43, Tryz.ntmps43
  go_wp2_with fail
  have t1 : Two ((w.alloc (.cells #[.int .i64 a, .int .i64 b] 47)).alloc (.cells #[.int .i64 c, .int .i64 d] 47)) w.heap.size (.int .i64 a) (.int .i64 b) := (Two.new_ w (.int .i64 a) (.int .i64 b) 47).alloc _
  have t2 : Two ((w.alloc (.cells #[.int .i64 a, .int .i64 b] 47)).alloc (.cells #[.int .i64 c, .int .i64 d] 47)) (w.heap.size + 1) (.int .i64 c) (.int .i64 d) := by simpa only [World.size_alloc, Nat.add_assoc, Nat.reduceAdd] using Two.new_ (w.alloc (.cells #[.int .i64 a, .int .i64 b] 47)) (.int .i64 c) (.int .i64 d) 47
  have bel : Below w.heap.size w ((w.alloc (.cells #[.int .i64 a, .int .i64 b] 47)).alloc (.cells #[.int .i64 c, .int .i64 d] 47)) := ((Below.refl _ _).alloc (Nat.le_refl _) _).alloc (by simp only [World.size_alloc]; omega) _
  generalize ((w.alloc (.cells #[.int .i64 a, .int .i64 b] 47)).alloc (.cells #[.int .i64 c, .int .i64 d] 47)) = wx at t1 t2 bel ⊢
  have t1_0 := t1.c0
  have t1_1 := t1.c1
  go_wp2_with fail
  refine (HX1.out _).mono ?_
  rintro e w2 ⟨A3, c3, l3, B3, d3, m3, rfl, E3, hb⟩
  clear t1_0 t1_1
  replace t1 := t1.below hb t1.lt
  replace t2 := t2.below hb t2.lt
  replace bel := bel.trans (hb.mono bel.size)
  clear hb
  go_upto_region 2 with (fail)
  have hg3 : w.heap.size + 1 < w2.heap.size := t2.lt
  have t3 : Four (w2.alloc (.cells #[.bool (decide (z1.num < 0)), .slice A3 l3.length c3, .bool false, .slice B3 m3.length d3] 26)) w2.heap.size (.bool (decide (z1.num < 0))) (.slice A3 l3.length c3) (.bool false) (.slice B3 m3.length d3) := Four.new_ w2 (.bool (decide (z1.num < 0))) (.slice A3 l3.length c3) (.bool false) (.slice B3 m3.length d3) 26
  have bn : Below w2.heap.size w2 (w2.alloc (.cells #[.bool (decide (z1.num < 0)), .slice A3 l3.length c3, .bool false, .slice B3 m3.length d3] 26)) := (Below.refl _ _).alloc (Nat.le_refl _) _
  replace t1 := t1.below bn t1.lt
  replace t2 := t2.below bn t2.lt
  replace bel := bel.trans (bn.mono bel.size)
  replace E3 := E3.below bn
  clear bn
  generalize (w2.alloc (.cells #[.bool (decide (z1.num < 0)), .slice A3 l3.length c3, .bool false, .slice B3 m3.length d3] 26)) = v1 at t1 t2 bel E3 t3 ⊢
  generalize w2.heap.size = g3 at t1 t2 bel E3 t3 hg3 ⊢
  have t2_0 := t2.c0
  have t2_1 := t2.c1
  go_wp2_with fail
  refine (HX2.out _).mono ?_
  rintro e w3 ⟨rfl, hb⟩
  clear t2_0 t2_1
  replace t1 := t1.below hb t1.lt
  replace t2 := t2.below hb t2.lt
  replace bel := bel.trans (hb.mono bel.size)
  replace E3 := E3.below hb
  replace t3 := t3.below hb t3.lt
  clear hb
  go_upto_region 3 with (fail)
  have hg4 : g3 < w3.heap.size := t3.lt
  have t4 : Four (w3.alloc (.cells #[.bool false, .slice none 0 0, .bool false, .slice none 0 0] 26)) w3.heap.size (.bool false) (.slice none 0 0) (.bool false) (.slice none 0 0) := Four.new_ w3 (.bool false) (.slice none 0 0) (.bool false) (.slice none 0 0) 26
  have bn : Below w3.heap.size w3 (w3.alloc (.cells #[.bool false, .slice none 0 0, .bool false, .slice none 0 0] 26)) := (Below.refl _ _).alloc (Nat.le_refl _) _
  replace t1 := t1.below bn t1.lt
  replace t2 := t2.below bn t2.lt
  replace bel := bel.trans (bn.mono bel.size)
  replace E3 := E3.below bn
  replace t3 := t3.below bn t3.lt
  clear bn
  generalize (w3.alloc (.cells #[.bool false, .slice none 0 0, .bool false, .slice none 0 0] 26)) = v2 at t1 t2 bel E3 t3 t4 ⊢
  generalize w3.heap.size = g4 at t1 t2 bel E3 t3 t4 hg4 ⊢
  go_wp2_with fail
  go_ret
  exact ⟨rfl, bel⟩

set_option maxRecDepth 100000 in
set_option maxHeartbeats 2000000 in
theorem rless_bo (a b c d : Int) (ha : -9223372036854775808 ≤ a ∧ a ≤ 9223372036854775807) (hb : -9223372036854775808 ≤ b ∧ b ≤ 9223372036854775807) (hc : -9223372036854775808 ≤ c ∧ c ≤ 9223372036854775807) (hd : -9223372036854775808 ≤ d ∧ d ≤ 9223372036854775807) (h1 : ¬ (0 ≤ a ∧ 1 ≤ b)) (h2 : 0 ≤ c ∧ 1 ≤ d) (w : World) :
    Calls Tryz.prog 43 #[.agg #[.int .i64 a, .int .i64 b], .agg #[.int .i64 c, .int .i64 d]] w fun e w' => e = .returned (.bool false) ∧ Below w.heap.size w w' := by
  have HX1 := Lib.hid (fun (W : World) => (rff_bad a b h1 W : Calls Tryz.prog 41 #[.agg #[.int .i64 a, .int .i64 b]] W fun e w' => e = .returned (.tuple #[.agg #[.bool false, .slice none 0 0, .bool false, .slice none 0 0], .int .i64 3]) ∧ Below W.heap.size W w'))
  obtain ⟨z2, hz2⟩ : ∃ z, z = Rat.divInt c d := ⟨_, rfl⟩
  have HX2 := Lib.hid (fun (W : World) => (by have h := rff_ok c d hc hd h2 W; rw [← hz2] at h; exact h : Calls Tryz.prog 41 #[.agg #[.int .i64 c, .int .i64 d]] W (GRc z2 2 W)))
  clear h1 h2 ha hb hc hd hz2
  go_enter Tryz.func43, Tryz.ntmps43
  go_wp2_with fail
  have t1 : Two ((w.alloc (.cells #[.int .i64 a, .int .i64 b] 47)).alloc (.cells #[.int .i64 c, .int .i64 d] 47)) w.heap.size (.int .i64 a) (.int .i64 b) := (Two.new_ w (.int .i64 a) (.int .i64 b) 47).alloc _
  have t2 : Two ((w.alloc (.cells #[.int .i64 a, .int .i64 b] 47)).alloc (.cells #[.int .i64 c, .int .i64 d] 47)) (w.heap.size + 1) (.int .i64 c) (.int .i64 d) := by simpa only [World.size_alloc, Nat.add_assoc, Nat.reduceAdd] using Two.new_ (w.alloc (.cells #[.int .i64 a, .int .i64 b] 47)) (.int .i64 c) (.int .i64 d) 47
  have bel : Below w.heap.size w ((w.alloc (.cells #[.int .i64 a, .int .i64 b] 47)).alloc (.cells #[.int .i64 c, .int .i64 d] 47)) := ((Below.refl _ _).alloc (Nat.le_refl _) _).alloc (by simp only [World.size_alloc]; omega) _
  generalize ((w.alloc (.cells #[.int .i64 a, .int .i64 b] 47)).alloc (.cells #[.int .i64 c, .int .i64 d] 47)) = wx at t1 t2 bel ⊢
  have t1_0 := t1.c0
  have t1_1 := t1.c1
  go_wp2_with fail
  refine (HX1.out _).mono ?_
  rintro e w2 ⟨rfl, hb⟩
  clear t1_0 t1_1
  replace t1 := t1.below hb t1.lt
  replace t2 := t2.below hb t2.lt
  replace bel := bel.trans (hb.mono bel.size)
  clear hb
  go_upto_region 2 with (fail)
  have hg3 : w.heap.size + 1 < w2.heap.size := t2.lt
  have t3 : Four (w2.alloc (.cells #[.bool false, .slice none 0 0, .bool false, .slice none 0 0] 26)) w2.heap.size (.bool false) (.slice none 0 0) (.bool false) (.slice none 0 0) := Four.new_ w2 (.bool false) (.slice none 0 0) (.bool false) (.slice none 0 0) 26
  have bn : Below w2.heap.size w2 (w2.alloc (.cells #[.bool false, .slice none 0 0, .bool false, .slice none 0 0] 26)) := (Below.refl _ _).alloc (Nat.le_refl _) _
  replace t1 := t1.below bn t1.lt
  replace t2 := t2.below bn t2.lt
  replace bel := bel.trans (bn.mono bel.size)
  clear bn
  generalize (w2.alloc (.cells #[.bool false, .slice none 0 0, .bool false, .slice none 0 0] 26)) = v1 at t1 t2 bel t3 ⊢
  generalize w2.heap.size = g3 at t1 t2 bel t3 hg3 ⊢
  have t2_0 := t2.c0
  have t2_1 := t2.c1
  go_wp2_with fail
  refine (HX2.out _).mono ?_
  rintro e w3 ⟨A4, c4, l4, B4, d4, m4, rfl, E4, hb⟩
  clear t2_0 t2_1
  replace t1 := t1.below hb t1.lt
  replace t2 := t2.below hb t2.lt
  replace bel := bel.trans (hb.mono bel.size)
  replace t3 := t3.below hb t3.lt
  clear hb
  go_upto_region 3 with (fail)
  have hg4 : g3 < w3.heap.size := t3.lt
  have t4 : Four (w3.alloc (.cells #[.bool (decide (z2.num < 0)), .slice A4 l4.length c4, .bool false, .slice B4 m4.length d4] 26)) w3.heap.size (.bool (decide (z2.num < 0))) (.slice A4 l4.length c4) (.bool false) (.slice B4 m4.length d4) := Four.new_ w3 (.bool (decide (z2.num < 0))) (.slice A4 l4.length c4) (.bool false) (.slice B4 m4.length d4) 26
  have bn : Below w3.heap.size w3 (w3.alloc (.cells #[.bool (decide (z2.num < 0)), .slice A4 l4.length c4, .bool false, .slice B4 m4.length d4] 26)) := (Below.refl _ _).alloc (Nat.le_refl _) _
  replace t1 := t1.below bn t1.lt
  replace t2 := t2.below bn t2.lt
  replace bel := bel.trans (bn.mono bel.size)
  replace t3 := t3.below bn t3.lt
  replace E4 := E4.below bn
  clear bn
  generalize (w3.alloc (.cells #[.bool (decide (z2.num < 0)), .slice A4 l4.length c4, .bool false, .slice B4 m4.length d4] 26)) = v2 at t1 t2 bel t3 E4 t4 ⊢
  generalize w3.heap.size = g4 at t1 t2 bel t3 E4 t4 hg4 ⊢
  go_wp2_with fail
  go_ret
  exact ⟨rfl, bel⟩

set_option maxRecDepth 100000 in
set_option maxHeartbeats 2000000 in
theorem rless_bb (a b c d : Int) (ha : -9223372036854775808 ≤ a ∧ a ≤ 9223372036854775807) (hb : -9223372036854775808 ≤ b ∧ b ≤ 9223372036854775807) (hc : -9223372036854775808 ≤ c ∧ c ≤ 9223372036854775807) (hd : -9223372036854775808 ≤ d ∧ d ≤ 9223372036854775807) (h1 : ¬ (0 ≤ a ∧ 1 ≤ b)) (h2 : ¬ (0 ≤ c ∧ 1 ≤ d)) (w : World) :
    Calls Tryz.prog 43 #[.agg #[.int .i64 a, .int .i64 b], .agg #[.int .i64 c, .int .i64 d]] w fun e w' => e = .returned (.bool false) ∧ Below w.heap.size w w' := by
  have HX1 := Lib.hid (fun (W : World) => (rff_bad a b h1 W : Calls Tryz.prog 41 #[.agg #[.int .i64 a, .int .i64 b]] W fun e w' => e = .returned (.tuple #[.agg #[.bool false, .slice none 0 0, .bool false, .slice none 0 0], .int .i64 3]) ∧ Below W.heap.size W w'))
  have HX2 := Lib.hid (fun (W : World) => (rff_bad c d h2 W : Calls Tryz.prog 41 #[.agg #[.int .i64 c, .int .i64 d]] W fun e w' => e = .returned (.tuple #[.agg #[.bool false, .slice none 0 0, .bool false, .slice none 0 0], .int .i64 3]) ∧ Below W.heap.size W w'))
  clear h1 h2 ha hb hc hd
  go_enter Tryz.func43, Tryz.ntmps43
  go_wp2_with fail
  have t1 : Two ((w.alloc (.cells #[.int .i64 a, .int .i64 b] 47)).alloc (.cells #[.int .i64 c, .int .i64 d] 47)) w.heap.size (.int .i64 a) (.int .i64 b) := (Two.new_ w (.int .i64 a) (.int .i64 b) 47).alloc _
  have t2 : Two ((w.alloc (.cells #[.int .i64 a, .int .i64 b] 47)).alloc (.cells #[.int .i64 c, .int .i64 d] 47)) (w.heap.size + 1) (.int .i64 c) (.int .i64 d) := by simpa only [World.size_alloc, Nat.add_assoc, Nat.reduceAdd] using Two.new_ (w.alloc (.cells #[.int .i64 a, .int .i64 b] 47)) (.int .i64 c) (.int .i64 d) 47
  have bel : Below w.heap.size w ((w.alloc (.cells #[.int .i64 a, .int .i64 b] 47)).alloc (.cells #[.int .i64 c, .int .i64 d] 47)) := ((Below.refl _ _).alloc (Nat.le_refl _) _).alloc (by simp only [World.size_alloc]; omega) _
  generalize ((w.alloc (.cells #[.int .i64 a, .int .i64 b] 47)).alloc (.cells #[.int .i64 c, .int .i64 d] 47)) = wx at t1 t2 bel ⊢
  have t1_0 := t1.c0
  have t1_1 := t1.c1
  go_wp2_with fail
  refine (HX1.out _).mono ?_
  rintro e w2 ⟨rfl, hb⟩
  clear t1_0 t1_1
  replace t1 := t1.below hb t1.lt
  replace t2 := t2.below hb t2.lt
  replace bel := bel.trans (hb.mono bel.size)
  clear hb
  go_upto_region 2 with (fail)
  have hg3 : w.heap.size + 1 < w2.heap.size := t2.lt
  have t3 : Four (w2.alloc (.cells #[.bool false, .slice none 0 0, .bool false, .slice none 0 0] 26)) w2.heap.size (.bool false) (.slice none 0 0) (.bool false) (.slice none 0 0) := Four.new_ w2 (.bool false) (.slice none 0 0) (.bool false) (.slice none 0 0) 26
  have bn : Below w2.heap.size w2 (w2.alloc (.cells #[.bool false, .slice none 0 0, .bool false, .slice none 0 0] 26)) := (Below.refl _ _).alloc (Nat.le_refl _) _
  replace t1 := t1.below bn t1.lt
  replace t2 := t2.below bn t2.lt
  replace bel := bel.trans (bn.mono bel.size)
  clear bn
  generalize (w2.alloc (.cells #[.bool false, .slice none 0 0, .bool false, .slice none 0 0] 26)) = v1 at t1 t2 bel t3 ⊢
  generalize w2.heap.size = g3 at t1 t2 bel t3 hg3 ⊢
  have t2_0 := t2.c0
  have t2_1 := t2.c1
  go_wp2_with fail
  refine (HX2.out _).mono ?_
  rintro e w3 ⟨rfl, hb⟩
  clear t2_0 t2_1
  replace t1 := t1.below hb t1.lt
  replace t2 := t2.below hb t2.lt
  replace bel := bel.trans (hb.mono bel.size)
  replace t3 := t3.below hb t3.lt
  clear hb
  go_upto_region 3 with (fail)
  have hg4 : g3 < w3.heap.size := t3.lt
  have t4 : Four (w3.alloc (.cells #[.bool false, .slice none 0 0, .bool false, .slice none 0 0] 26)) w3.heap.size (.bool false) (.slice none 0 0) (.bool false) (.slice none 0 0) := Four.new_ w3 (.bool false) (.slice none 0 0) (.bool false) (.slice none 0 0) 26
  have bn : Below w3.heap.size w3 (w3.alloc (.cells #[.bool false, .slice none 0 0, .bool false, .slice none 0 0] 26)) := (Below.refl _ _).alloc (Nat.le_refl _) _
  replace t1 := t1.below bn t1.lt
  replace t2 := t2.below bn t2.lt
  replace bel := bel.trans (bn.mono bel.size)
  replace t3 := t3.below bn t3.lt
  clear bn
  generalize (w3.alloc (.cells #[.bool false, .slice none 0 0, .bool false, .slice none 0 0] 26)) = v2 at t1 t2 bel t3 t4 ⊢
  generalize w3.heap.size = g4 at t1 t2 bel t3 t4 hg4 ⊢
  go_wp2_with fail
  go_ret
  exact ⟨rfl, bel⟩

theorem rless_any (a b c d : Int) (ha : -9223372036854775808 ≤ a ∧ a ≤ 9223372036854775807) (hb : -9223372036854775808 ≤ b ∧ b ≤ 9223372036854775807) (hc : -9223372036854775808 ≤ c ∧ c ≤ 9223372036854775807) (hd : -9223372036854775808 ≤ d ∧ d ≤ 9223372036854775807) (w : World) :
    Calls Tryz.prog 43 #[.agg #[.int .i64 a, .int .i64 b], .agg #[.int .i64 c, .int .i64 d]] w fun e w' => e = .returned (.bool (lessF a b c d)) ∧ Below w.heap.size w w' := by
  by_cases h1 : 0 ≤ a ∧ 1 ≤ b
  · by_cases h2 : 0 ≤ c ∧ 1 ≤ d
    · exact rless_oo a b c d ha hb hc hd h1 h2 w
    · rw [show lessF a b c d = false from decide_eq_false (fun h => h2 h.2.1)]; exact rless_ob a b c d ha hb hc hd h1 h2 w
  · rw [show lessF a b c d = false from decide_eq_false (fun h => h1 h.1)]
    by_cases h2 : 0 ≤ c ∧ 1 ≤ d
    · exact rless_bo a b c d ha hb hc hd h1 h2 w
    · exact rless_bb a b c d ha hb hc hd h1 h2 w
end Go.Proofs.YtpfaddgcfacgdaaGreatDoor
