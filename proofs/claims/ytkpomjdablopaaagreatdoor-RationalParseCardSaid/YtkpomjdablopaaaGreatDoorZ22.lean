/- My texts, packed: LawParse. -/
import Derived.Test.YtkpomjdablopaaaGreatDoorZ14
import Derived.Test.YtkpomjdablopaaaGreatDoorZ16
import Derived.Test.YtkpomjdablopaaaGreatDoorZ21
/- Walks of package rational: RationalParse, the law. -/
namespace Go.Proofs.YtkpomjdablopaaaGreatDoor
open Go.RowKit
set_option linter.unusedVariables false

set_option maxRecDepth 100000 in
set_option maxHeartbeats 1500000 in
theorem parse_code_short (s : ByteArray) (w : World) (ht : Tabs w) (mx : Mx w) (hs : s.size ≤ 60) (c : Int) (h1 : ∀ W, Mx W → Calls Tryz.prog 9 #[.string s] W (PBad c W)) (h2 : ∀ W, Calls Tryz.prog 13 #[.string s] W (PBad c W)) :
    Calls Tryz.prog 4 #[.string s] w fun e w' => e = .returned (.bool true) ∧ Below w.heap.size w w' := by
  have k1 : ¬ (60 : Int) < (s.size : Int) := by omega
  have k2 : decide ((60 : Int) < (s.size : Int)) = false := decide_eq_false k1
  have HP1 := Lib.hid h1
  have HP2 := Lib.hid h2
  have hcc : (c == c) = true := beq_self_eq_true _
  have HS0 : Hid (∀ W : World, Calls Tryz.prog 11 #[.agg #[.bool false, .slice none 0 0, .bool false, .slice none 0 0], .agg #[.bool false, .slice none 0 0, .bool false, .slice none 0 0]] W fun e w' => e = .returned (.bool true) ∧ Below W.heap.size W w') := Lib.hid (fun W => same_raw (Sl.nil _ _) (Sl.nil _ _) (Sl.nil _ _) (Sl.nil _ _) (by decide) (by decide) (by decide) (by decide))
  unfold PBad ratV at HP1 HP2
  clear hs h1 h2
  have bel : Below w.heap.size w w := Below.refl _ _
  have HK := Lib.hid (rknown_ok w ht mx)
  go_enter Tryz.func4, Tryz.ntmps4
  go_wp2_with fail
  refine (HK.out).mono ?_
  rintro e w2 ⟨rfl, hb⟩
  replace bel := bel.trans (hb.mono bel.size)
  clear hb
  go_wp2_with fail
  have M := mx.below_ bel
  refine (HP1.out _ M).mono ?_
  rintro e w3 ⟨rfl, hb⟩
  replace bel := bel.trans (hb.mono bel.size)
  clear hb
  clear M
  go_upto_region 6 with (fail)
  have t5 : Four (w3.alloc (.cells #[.bool false, .slice none 0 0, .bool false, .slice none 0 0] 26)) w3.heap.size (.bool false) (.slice none 0 0) (.bool false) (.slice none 0 0) := Four.new_ w3 (.bool false) (.slice none 0 0) (.bool false) (.slice none 0 0) 26
  have bn : Below w3.heap.size w3 (w3.alloc (.cells #[.bool false, .slice none 0 0, .bool false, .slice none 0 0] 26)) := (Below.refl _ _).alloc (Nat.le_refl _) _
  replace bel := bel.trans (bn.mono bel.size)
  clear bn
  generalize (w3.alloc (.cells #[.bool false, .slice none 0 0, .bool false, .slice none 0 0] 26)) = v1 at bel t5 ⊢
  generalize w3.heap.size = g5 at bel t5 ⊢
  go_wp2_with fail
  refine (HP2.out _).mono ?_
  rintro e w4 ⟨rfl, hb⟩
  replace bel := bel.trans (hb.mono bel.size)
  replace t5 := t5.below hb t5.lt
  clear hb
  go_upto_region 7 with (fail)
  have t7 : Four (w4.alloc (.cells #[.bool false, .slice none 0 0, .bool false, .slice none 0 0] 26)) w4.heap.size (.bool false) (.slice none 0 0) (.bool false) (.slice none 0 0) := Four.new_ w4 (.bool false) (.slice none 0 0) (.bool false) (.slice none 0 0) 26
  have bn : Below w4.heap.size w4 (w4.alloc (.cells #[.bool false, .slice none 0 0, .bool false, .slice none 0 0] 26)) := (Below.refl _ _).alloc (Nat.le_refl _) _
  replace bel := bel.trans (bn.mono bel.size)
  replace t5 := t5.below bn t5.lt
  clear bn
  generalize (w4.alloc (.cells #[.bool false, .slice none 0 0, .bool false, .slice none 0 0] 26)) = v2 at bel t5 t7 ⊢
  generalize w4.heap.size = g7 at bel t5 t7 ⊢
  have t5_0 := t5.c0
  have t5_1 := t5.c1
  have t5_2 := t5.c2
  have t5_3 := t5.c3
  have t7_0 := t7.c0
  have t7_1 := t7.c1
  have t7_2 := t7.c2
  have t7_3 := t7.c3
  go_wp2_with fail
  refine (HS0.out _).mono ?_
  rintro e w5 ⟨rfl, hb⟩
  clear t5_0 t5_1 t5_2 t5_3 t7_0 t7_1 t7_2 t7_3
  replace bel := bel.trans (hb.mono bel.size)
  replace t5 := t5.below hb t5.lt
  replace t7 := t7.below hb t7.lt
  clear hb
  go_wp2_with fail
  go_ret
  exact ⟨rfl, bel⟩

set_option maxRecDepth 100000 in
set_option maxHeartbeats 1500000 in
theorem parse_code_long (s : ByteArray) (w : World) (ht : Tabs w) (mx : Mx w) (hs : 8192 < s.size) (c : Int) (h1 : ∀ W, Mx W → Calls Tryz.prog 9 #[.string s] W (PBad c W)) (h2 : ∀ W, Calls Tryz.prog 13 #[.string s] W (PBad c W)) :
    Calls Tryz.prog 4 #[.string s] w fun e w' => e = .returned (.bool true) ∧ Below w.heap.size w w' := by
  have k1 : (60 : Int) < (s.size : Int) := by omega
  have k2 : decide ((60 : Int) < (s.size : Int)) = true := decide_eq_true k1
  have k3 : ¬ (s.size : Int) ≤ 8192 := by omega
  have k4 : decide ((s.size : Int) ≤ 8192) = false := decide_eq_false k3
  have HP1 := Lib.hid h1
  have HP2 := Lib.hid h2
  have hcc : (c == c) = true := beq_self_eq_true _
  have HS0 : Hid (∀ W : World, Calls Tryz.prog 11 #[.agg #[.bool false, .slice none 0 0, .bool false, .slice none 0 0], .agg #[.bool false, .slice none 0 0, .bool false, .slice none 0 0]] W fun e w' => e = .returned (.bool true) ∧ Below W.heap.size W w') := Lib.hid (fun W => same_raw (Sl.nil _ _) (Sl.nil _ _) (Sl.nil _ _) (Sl.nil _ _) (by decide) (by decide) (by decide) (by decide))
  unfold PBad ratV at HP1 HP2
  clear hs h1 h2
  have bel : Below w.heap.size w w := Below.refl _ _
  have HK := Lib.hid (rknown_ok w ht mx)
  go_enter Tryz.func4, Tryz.ntmps4
  go_wp2_with fail
  refine (HK.out).mono ?_
  rintro e w2 ⟨rfl, hb⟩
  replace bel := bel.trans (hb.mono bel.size)
  clear hb
  go_wp2_with fail
  have M := mx.below_ bel
  refine (HP1.out _ M).mono ?_
  rintro e w3 ⟨rfl, hb⟩
  replace bel := bel.trans (hb.mono bel.size)
  clear hb
  clear M
  go_upto_region 6 with (fail)
  have t5 : Four (w3.alloc (.cells #[.bool false, .slice none 0 0, .bool false, .slice none 0 0] 26)) w3.heap.size (.bool false) (.slice none 0 0) (.bool false) (.slice none 0 0) := Four.new_ w3 (.bool false) (.slice none 0 0) (.bool false) (.slice none 0 0) 26
  have bn : Below w3.heap.size w3 (w3.alloc (.cells #[.bool false, .slice none 0 0, .bool false, .slice none 0 0] 26)) := (Below.refl _ _).alloc (Nat.le_refl _) _
  replace bel := bel.trans (bn.mono bel.size)
  clear bn
  generalize (w3.alloc (.cells #[.bool false, .slice none 0 0, .bool false, .slice none 0 0] 26)) = v1 at bel t5 ⊢
  generalize w3.heap.size = g5 at bel t5 ⊢
  go_wp2_with fail
  refine (HP2.out _).mono ?_
  rintro e w4 ⟨rfl, hb⟩
  replace bel := bel.trans (hb.mono bel.size)
  replace t5 := t5.below hb t5.lt
  clear hb
  go_upto_region 7 with (fail)
  have t7 : Four (w4.alloc (.cells #[.bool false, .slice none 0 0, .bool false, .slice none 0 0] 26)) w4.heap.size (.bool false) (.slice none 0 0) (.bool false) (.slice none 0 0) := Four.new_ w4 (.bool false) (.slice none 0 0) (.bool false) (.slice none 0 0) 26
  have bn : Below w4.heap.size w4 (w4.alloc (.cells #[.bool false, .slice none 0 0, .bool false, .slice none 0 0] 26)) := (Below.refl _ _).alloc (Nat.le_refl _) _
  replace bel := bel.trans (bn.mono bel.size)
  replace t5 := t5.below bn t5.lt
  clear bn
  generalize (w4.alloc (.cells #[.bool false, .slice none 0 0, .bool false, .slice none 0 0] 26)) = v2 at bel t5 t7 ⊢
  generalize w4.heap.size = g7 at bel t5 t7 ⊢
  have t5_0 := t5.c0
  have t5_1 := t5.c1
  have t5_2 := t5.c2
  have t5_3 := t5.c3
  have t7_0 := t7.c0
  have t7_1 := t7.c1
  have t7_2 := t7.c2
  have t7_3 := t7.c3
  go_wp2_with fail
  refine (HS0.out _).mono ?_
  rintro e w5 ⟨rfl, hb⟩
  clear t5_0 t5_1 t5_2 t5_3 t7_0 t7_1 t7_2 t7_3
  replace bel := bel.trans (hb.mono bel.size)
  replace t5 := t5.below hb t5.lt
  replace t7 := t7.below hb t7.lt
  clear hb
  go_wp2_with fail
  go_ret
  exact ⟨rfl, bel⟩

set_option maxRecDepth 100000 in
set_option maxHeartbeats 1500000 in
theorem parse_ok_short (s : ByteArray) (w : World) (ht : Tabs w) (mx : Mx w) (hs : s.size ≤ 60) (z : Rat) (h1 : ∀ W, Mx W → Calls Tryz.prog 9 #[.string s] W (GRc z 100 W)) (h2 : ∀ W, Calls Tryz.prog 13 #[.string s] W (GRc z 100 W)) :
    Calls Tryz.prog 4 #[.string s] w fun e w' => e = .returned (.bool true) ∧ Below w.heap.size w w' := by
  have k1 : ¬ (60 : Int) < (s.size : Int) := by omega
  have k2 : decide ((60 : Int) < (s.size : Int)) = false := decide_eq_false k1
  have HP1 := Lib.hid h1
  have HP2 := Lib.hid h2
  have HSM := Lib.hid (fun (W : World) (A : Option Addr) (c : Nat) (l : List Nat) (B : Option Addr) (d : Nat) (m : List Nat) (A' : Option Addr) (c' : Nat) (l' : List Nat) (B' : Option Addr) (d' : Nat) (m' : List Nat) (h : Cr W A c l B d m z 100) (h' : Cr W A' c' l' B' d' m' z 100) => (by have h := grsame h h' (by decide) (by decide); rwa [decide_eq_true rfl] at h : Calls Tryz.prog 11 #[.agg #[.bool (decide (z.num < 0)), .slice A l.length c, .bool false, .slice B m.length d], .agg #[.bool (decide (z.num < 0)), .slice A' l'.length c', .bool false, .slice B' m'.length d']] W fun e w' => e = .returned (.bool true) ∧ Below W.heap.size W w'))
  clear hs h1 h2
  have bel : Below w.heap.size w w := Below.refl _ _
  have HK := Lib.hid (rknown_ok w ht mx)
  go_enter Tryz.func4, Tryz.ntmps4
  go_wp2_with fail
  refine (HK.out).mono ?_
  rintro e w2 ⟨rfl, hb⟩
  replace bel := bel.trans (hb.mono bel.size)
  clear hb
  go_wp2_with fail
  have M := mx.below_ bel
  refine (HP1.out _ M).mono ?_
  rintro e w3 ⟨A1, c1, l1, B1, d1, m1, rfl, C1, hb⟩
  replace bel := bel.trans (hb.mono bel.size)
  clear hb
  clear M
  go_upto_region 6 with (fail)
  have t5 : Four (w3.alloc (.cells #[.bool (decide (z.num < 0)), .slice A1 l1.length c1, .bool false, .slice B1 m1.length d1] 26)) w3.heap.size (.bool (decide (z.num < 0))) (.slice A1 l1.length c1) (.bool false) (.slice B1 m1.length d1) := Four.new_ w3 (.bool (decide (z.num < 0))) (.slice A1 l1.length c1) (.bool false) (.slice B1 m1.length d1) 26
  have bn : Below w3.heap.size w3 (w3.alloc (.cells #[.bool (decide (z.num < 0)), .slice A1 l1.length c1, .bool false, .slice B1 m1.length d1] 26)) := (Below.refl _ _).alloc (Nat.le_refl _) _
  replace bel := bel.trans (bn.mono bel.size)
  replace C1 := C1.below bn
  clear bn
  generalize (w3.alloc (.cells #[.bool (decide (z.num < 0)), .slice A1 l1.length c1, .bool false, .slice B1 m1.length d1] 26)) = v1 at bel C1 t5 ⊢
  generalize w3.heap.size = g5 at bel C1 t5 ⊢
  go_wp2_with fail
  refine (HP2.out _).mono ?_
  rintro e w4 ⟨A2, c2, l2, B2', d2, m2, rfl, C2, hb⟩
  replace bel := bel.trans (hb.mono bel.size)
  replace C1 := C1.below hb
  replace t5 := t5.below hb t5.lt
  clear hb
  go_upto_region 7 with (fail)
  have t7 : Four (w4.alloc (.cells #[.bool (decide (z.num < 0)), .slice A2 l2.length c2, .bool false, .slice B2' m2.length d2] 26)) w4.heap.size (.bool (decide (z.num < 0))) (.slice A2 l2.length c2) (.bool false) (.slice B2' m2.length d2) := Four.new_ w4 (.bool (decide (z.num < 0))) (.slice A2 l2.length c2) (.bool false) (.slice B2' m2.length d2) 26
  have bn : Below w4.heap.size w4 (w4.alloc (.cells #[.bool (decide (z.num < 0)), .slice A2 l2.length c2, .bool false, .slice B2' m2.length d2] 26)) := (Below.refl _ _).alloc (Nat.le_refl _) _
  replace bel := bel.trans (bn.mono bel.size)
  replace C1 := C1.below bn
  replace t5 := t5.below bn t5.lt
  replace C2 := C2.below bn
  clear bn
  generalize (w4.alloc (.cells #[.bool (decide (z.num < 0)), .slice A2 l2.length c2, .bool false, .slice B2' m2.length d2] 26)) = v2 at bel C1 t5 C2 t7 ⊢
  generalize w4.heap.size = g7 at bel C1 t5 C2 t7 ⊢
  have t5_0 := t5.c0
  have t5_1 := t5.c1
  have t5_2 := t5.c2
  have t5_3 := t5.c3
  have t7_0 := t7.c0
  have t7_1 := t7.c1
  have t7_2 := t7.c2
  have t7_3 := t7.c3
  go_wp2_with fail
  refine (HSM.out _ _ _ _ _ _ _ _ _ _ _ _ _ C1 C2).mono ?_
  rintro e w5 ⟨rfl, hb⟩
  clear t5_0 t5_1 t5_2 t5_3 t7_0 t7_1 t7_2 t7_3
  replace bel := bel.trans (hb.mono bel.size)
  replace C1 := C1.below hb
  replace t5 := t5.below hb t5.lt
  replace C2 := C2.below hb
  replace t7 := t7.below hb t7.lt
  clear hb
  go_wp2_with fail
  go_ret
  exact ⟨rfl, bel⟩

set_option maxRecDepth 100000 in
set_option maxHeartbeats 1500000 in
theorem parse_none_mid (s : ByteArray) (w : World) (ht : Tabs w) (mx : Mx w) (hs : 60 < s.size ∧ s.size ≤ 8192) :
    Calls Tryz.prog 4 #[.string s] w fun e w' => e = .returned (.bool true) ∧ Below w.heap.size w w' := by
  have k1 : (60 : Int) < (s.size : Int) := by omega
  have k2 : decide ((60 : Int) < (s.size : Int)) = true := decide_eq_true k1
  have k3 : (s.size : Int) ≤ 8192 := by omega
  have k4 : decide ((s.size : Int) ≤ 8192) = true := decide_eq_true k3
  clear hs
  have bel : Below w.heap.size w w := Below.refl _ _
  have HK := Lib.hid (rknown_ok w ht mx)
  go_enter Tryz.func4, Tryz.ntmps4
  go_wp2_with fail
  refine (HK.out).mono ?_
  rintro e w2 ⟨rfl, hb⟩
  replace bel := bel.trans (hb.mono bel.size)
  clear hb
  go_wp2_with fail
  go_ret
  exact ⟨rfl, bel⟩

theorem parse_walk (s : ByteArray) (w : World) (ht : Tabs w) (mx : Mx w) :
    Calls Tryz.prog 4 #[.string s] w fun e w' => e = .returned (.bool true) ∧ Below w.heap.size w w' := by
  rcases Nat.lt_or_ge 8192 s.size with h | h
  · exact parse_code_long s w ht mx h 5 (fun W _ => parse_long h W) (fun W => rparse_long h W)
  rcases Nat.lt_or_ge 60 s.size with h2 | h2
  · exact parse_none_mid s w ht mx ⟨h2, h⟩
  have p1 : ∀ W, Mx W → Calls Tryz.prog 9 #[.string s] W (PR (bs s) W) := fun W m => pparse s (by omega) W m
  have p2 : ∀ W, Calls Tryz.prog 13 #[.string s] W (PR (bs s) W) := fun W => rparse_any s (by omega) W
  cases hG : Kt.prG (bs s) with
  | false => exact parse_code_short s w ht mx h2 6 (fun W m => (p1 W m).mono (fun _ _ h => PR.getB hG h)) (fun W => (p2 W).mono (fun _ _ h => PR.getB hG h))
  | true =>
    by_cases hy : Kt.prY (bs s) = 0
    · exact parse_code_short s w ht mx h2 3 (fun W m => (p1 W m).mono (fun _ _ h => PR.getZ hG hy h)) (fun W => (p2 W).mono (fun _ _ h => PR.getZ hG hy h))
    · exact parse_ok_short s w ht mx h2 _ (fun W m => (p1 W m).mono (fun _ _ h => PR.get hG hy rfl h)) (fun W => (p2 W).mono (fun _ _ h => PR.get hG hy rfl h))
end Go.Proofs.YtkpomjdablopaaaGreatDoor
