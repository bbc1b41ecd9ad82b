/- My texts, packed: LawLog, J1, J2, J3. -/
import Derived.Test.YtkpomjdablopaaaGreatDoorZ14
import Derived.Test.YtkpomjdablopaaaGreatDoorZ19
import Derived.Test.YtkpomjdablopaaaGreatDoorZ15
import Derived.Test.YtkpomjdablopaaaGreatDoorZ17
import Derived.Deep.RegionLawGrows
import Derived.Deep.AppendLies
import Derived.IntWalk
/- Walks of package rational: RationalLog, the law. -/
namespace Go.Proofs.YtkpomjdablopaaaGreatDoor
open Go.RowKit
set_option linter.unusedVariables false

theorem plog2floor_pos {W : World} {p q : Bool} {A B : Option Addr} {c d : Nat} {l m : List Nat} {z : Rat} (h : Rv W p A c l q B d m z 4) (hp : 0 < z.num) : Calls Tryz.prog 14 #[ratV p A l.length c q B m.length d] W (GL z W) := by
  obtain ⟨x, y, hx, hy, hz⟩ := h
  exact log2floor_pos hx hy hz.symm (by decide) (by decide) (Int.sign_eq_one_of_pos hp)
theorem plog2ceil_pos {W : World} {p q : Bool} {A B : Option Addr} {c d : Nat} {l m : List Nat} {z : Rat} (h : Rv W p A c l q B d m z 4) (hp : 0 < z.num) : Calls Tryz.prog 15 #[ratV p A l.length c q B m.length d] W (GC z W) := by
  obtain ⟨x, y, hx, hy, hz⟩ := h
  exact log2ceil_pos hx hy hz.symm (by decide) (by decide) (Int.sign_eq_one_of_pos hp)
theorem plog2floor_neg {W : World} {p q : Bool} {A B : Option Addr} {c d : Nat} {l m : List Nat} {z : Rat} (h : Rv W p A c l q B d m z 4) (hn : z.num ≤ 0) : Calls Tryz.prog 14 #[ratV p A l.length c q B m.length d] W fun e w' => e = .returned (.tuple #[.int .i64 0, .int .i64 3]) ∧ Below W.heap.size W w' := by
  obtain ⟨x, y, hx, hy, hz⟩ := h
  exact log2floor_neg hx hy hz.symm (by decide) (Int.sign_nonpos_iff.2 hn)
set_option maxRecDepth 100000 in
set_option maxHeartbeats 1000000 in
theorem plog2ceil_neg {p1 : Bool} {A1 : Option Addr} {c1 : Nat} {l1 : List Nat} {q1 : Bool} {B1 : Option Addr} {d1 : Nat} {m1 : List Nat} {z1 : Rat} {w : World} (h1 : Rv w p1 A1 c1 l1 q1 B1 d1 m1 z1 4) (hn : z1.num ≤ 0) :
    Calls Tryz.prog 15 #[ratV p1 A1 l1.length c1 q1 B1 m1.length d1] w fun e w' => e = .returned (.tuple #[.int .i64 0, .int .i64 3]) ∧ Below w.heap.size w w' := by
  have HFL := Lib.hid (fun (W : World) (h : Rv W p1 A1 c1 l1 q1 B1 d1 m1 z1 4) => (plog2floor_neg h hn : Calls Tryz.prog 14 #[.agg #[.bool p1, .slice A1 l1.length c1, .bool q1, .slice B1 m1.length d1]] W fun e w' => e = .returned (.tuple #[.int .i64 0, .int .i64 3]) ∧ Below W.heap.size W w'))
  clear hn
  unfold ratV
  go_enter Tryz.func15, Tryz.ntmps15
  go_wp2_with fail
  have t1 : Four (w.alloc (.cells #[.bool p1, .slice A1 l1.length c1, .bool q1, .slice B1 m1.length d1] 26)) w.heap.size (.bool p1) (.slice A1 l1.length c1) (.bool q1) (.slice B1 m1.length d1) := Four.new_ w (.bool p1) (.slice A1 l1.length c1) (.bool q1) (.slice B1 m1.length d1) 26
  have bel : Below w.heap.size w (w.alloc (.cells #[.bool p1, .slice A1 l1.length c1, .bool q1, .slice B1 m1.length d1] 26)) := (Below.refl _ _).alloc (Nat.le_refl _) _
  generalize (w.alloc (.cells #[.bool p1, .slice A1 l1.length c1, .bool q1, .slice B1 m1.length d1] 26)) = wx at t1 bel ⊢
  have X := h1.below bel
  have t1_0 := t1.c0
  have t1_1 := t1.c1
  have t1_2 := t1.c2
  have t1_3 := t1.c3
  go_wp2_with fail
  refine (HFL.out _ X).mono ?_
  rintro e w2 ⟨rfl, hb⟩
  clear t1_0 t1_1 t1_2 t1_3
  replace t1 := t1.below hb t1.lt
  replace bel := bel.trans (hb.mono bel.size)
  clear hb
  clear X
  go_wp2_with fail
  go_ret2
  exact ⟨rfl, bel⟩

set_option maxRecDepth 100000 in
set_option maxHeartbeats 1500000 in
theorem log_few1 (p1 : Bool) (A1 : Option Addr) (l1 : List Nat) (c1 : Nat) (q1 : Bool) (B1 : Option Addr) (m1 : List Nat) (d1 : Nat) (w : World) (ht : Tabs w) (mx : Mx w) (f1 : decide (l1.length ≤ 4 ∧ m1.length ≤ 4) = false) :
    Calls Tryz.prog 5 #[ratV p1 A1 l1.length c1 q1 B1 m1.length d1] w fun e w' => e = .returned (.bool true) ∧ Below w.heap.size w w' := by
  have HF1 := Lib.hid (fun (W : World) => gfew p1 A1 c1 l1.length q1 B1 d1 m1.length false (Lib.hid f1) W)
  clear f1
  unfold ratV
  go_enter Tryz.func5, Tryz.ntmps5
  go_wp2_with fail
  have t1 : Four (w.alloc (.cells #[.bool p1, .slice A1 l1.length c1, .bool q1, .slice B1 m1.length d1] 26)) w.heap.size (.bool p1) (.slice A1 l1.length c1) (.bool q1) (.slice B1 m1.length d1) := Four.new_ w (.bool p1) (.slice A1 l1.length c1) (.bool q1) (.slice B1 m1.length d1) 26
  have bel : Below w.heap.size w (w.alloc (.cells #[.bool p1, .slice A1 l1.length c1, .bool q1, .slice B1 m1.length d1] 26)) := (Below.refl _ _).alloc (Nat.le_refl _) _
  generalize (w.alloc (.cells #[.bool p1, .slice A1 l1.length c1, .bool q1, .slice B1 m1.length d1] 26)) = wx at t1 bel ⊢
  refine (rknown_ok _ (ht.below bel) (mx.below_ bel)).mono ?_
  rintro e w2 ⟨rfl, hb⟩
  replace t1 := t1.below hb t1.lt
  replace bel := bel.trans (hb.mono bel.size)
  clear hb
  have t1_0 := t1.c0
  have t1_1 := t1.c1
  have t1_2 := t1.c2
  have t1_3 := t1.c3
  go_wp2_with fail
  refine (HF1.out _).mono ?_
  rintro e w3 ⟨rfl, hb⟩
  clear t1_0 t1_1 t1_2 t1_3
  replace t1 := t1.below hb t1.lt
  replace bel := bel.trans (hb.mono bel.size)
  clear hb
  go_wp2_with fail
  go_ret
  exact ⟨rfl, bel⟩

set_option maxRecDepth 100000 in
set_option maxHeartbeats 1500000 in
theorem log_pos (p1 : Bool) (A1 : Option Addr) (l1 : List Nat) (c1 : Nat) (q1 : Bool) (B1 : Option Addr) (m1 : List Nat) (d1 : Nat) {z1 : Rat} (w : World) (h1 : Rv w p1 A1 c1 l1 q1 B1 d1 m1 z1 4) (ht : Tabs w) (mx : Mx w) (f1 : decide (l1.length ≤ 4 ∧ m1.length ≤ 4) = true) (hp : 0 < z1.num) :
    Calls Tryz.prog 5 #[ratV p1 A1 l1.length c1 q1 B1 m1.length d1] w fun e w' => e = .returned (.bool true) ∧ Below w.heap.size w w' := by
  have HA := Lib.hid (fun (W : World) (h : Rv W p1 A1 c1 l1 q1 B1 d1 m1 z1 4) => plog2floor_pos h hp)
  have HB := Lib.hid (fun (W : World) (h : Rv W p1 A1 c1 l1 q1 B1 d1 m1 z1 4) => plog2ceil_pos h hp)
  have HC := Lib.hid (fun (W : World) (h : Rv W p1 A1 c1 l1 q1 B1 d1 m1 z1 4) => rlog2floor_pos h hp)
  have HD := Lib.hid (fun (W : World) (h : Rv W p1 A1 c1 l1 q1 B1 d1 m1 z1 4) => rlog2ceil_pos h hp)
  clear hp
  have HF1 := Lib.hid (fun (W : World) => gfew p1 A1 c1 l1.length q1 B1 d1 m1.length true (Lib.hid f1) W)
  clear f1
  unfold ratV
  go_enter Tryz.func5, Tryz.ntmps5
  go_wp2_with fail
  have t1 : Four (w.alloc (.cells #[.bool p1, .slice A1 l1.length c1, .bool q1, .slice B1 m1.length d1] 26)) w.heap.size (.bool p1) (.slice A1 l1.length c1) (.bool q1) (.slice B1 m1.length d1) := Four.new_ w (.bool p1) (.slice A1 l1.length c1) (.bool q1) (.slice B1 m1.length d1) 26
  have bel : Below w.heap.size w (w.alloc (.cells #[.bool p1, .slice A1 l1.length c1, .bool q1, .slice B1 m1.length d1] 26)) := (Below.refl _ _).alloc (Nat.le_refl _) _
  generalize (w.alloc (.cells #[.bool p1, .slice A1 l1.length c1, .bool q1, .slice B1 m1.length d1] 26)) = wx at t1 bel ⊢
  refine (rknown_ok _ (ht.below bel) (mx.below_ bel)).mono ?_
  rintro e w2 ⟨rfl, hb⟩
  replace t1 := t1.below hb t1.lt
  replace bel := bel.trans (hb.mono bel.size)
  clear hb
  have t1_0 := t1.c0
  have t1_1 := t1.c1
  have t1_2 := t1.c2
  have t1_3 := t1.c3
  go_wp2_with fail
  refine (HF1.out _).mono ?_
  rintro e w3 ⟨rfl, hb⟩
  clear t1_0 t1_1 t1_2 t1_3
  replace t1 := t1.below hb t1.lt
  replace bel := bel.trans (hb.mono bel.size)
  clear hb
  clear HF1
  have X := h1.below bel
  have t1_0 := t1.c0
  have t1_1 := t1.c1
  have t1_2 := t1.c2
  have t1_3 := t1.c3
  go_wp2_with fail
  refine (HA.out _ X).mono ?_
  rintro e w4 ⟨k1, rfl, hL1, hk1, hq1, hb⟩
  clear t1_0 t1_1 t1_2 t1_3
  replace t1 := t1.below hb t1.lt
  replace bel := bel.trans (hb.mono bel.size)
  clear hb
  clear X hk1 hq1
  have HL1 := Lib.hid hL1
  clear hL1
  have X := h1.below bel
  have t1_0 := t1.c0
  have t1_1 := t1.c1
  have t1_2 := t1.c2
  have t1_3 := t1.c3
  go_wp2_with fail
  refine (HB.out _ X).mono ?_
  rintro e w5 ⟨k2, rfl, hL2, hk2, hq2, hb⟩
  clear t1_0 t1_1 t1_2 t1_3
  replace t1 := t1.below hb t1.lt
  replace bel := bel.trans (hb.mono bel.size)
  clear hb
  clear X hk2 hq2
  have HL2 := Lib.hid hL2
  clear hL2
  have X := h1.below bel
  have t1_0 := t1.c0
  have t1_1 := t1.c1
  have t1_2 := t1.c2
  have t1_3 := t1.c3
  go_wp2_with fail
  refine (HC.out _ X).mono ?_
  rintro e w6 ⟨k3, rfl, hL3, hk3, hq3, hb⟩
  clear t1_0 t1_1 t1_2 t1_3
  replace t1 := t1.below hb t1.lt
  replace bel := bel.trans (hb.mono bel.size)
  clear hb
  clear X hk3 hq3
  obtain rfl : k1 = k3 := isL_uniq HL1.out hL3
  clear hL3
  have X := h1.below bel
  have t1_0 := t1.c0
  have t1_1 := t1.c1
  have t1_2 := t1.c2
  have t1_3 := t1.c3
  go_wp2_with fail
  refine (HD.out _ X).mono ?_
  rintro e w7 ⟨k4, rfl, hL4, hk4, hq4, hb⟩
  clear t1_0 t1_1 t1_2 t1_3
  replace t1 := t1.below hb t1.lt
  replace bel := bel.trans (hb.mono bel.size)
  clear hb
  clear X hk4 hq4
  obtain rfl : k2 = k4 := isC_uniq HL2.out hL4
  clear hL4
  go_wp2_with fail
  go_ret
  exact ⟨rfl, bel⟩

set_option maxRecDepth 100000 in
set_option maxHeartbeats 1500000 in
theorem log_neg (p1 : Bool) (A1 : Option Addr) (l1 : List Nat) (c1 : Nat) (q1 : Bool) (B1 : Option Addr) (m1 : List Nat) (d1 : Nat) {z1 : Rat} (w : World) (h1 : Rv w p1 A1 c1 l1 q1 B1 d1 m1 z1 4) (ht : Tabs w) (mx : Mx w) (f1 : decide (l1.length ≤ 4 ∧ m1.length ≤ 4) = true) (hn : z1.num ≤ 0) :
    Calls Tryz.prog 5 #[ratV p1 A1 l1.length c1 q1 B1 m1.length d1] w fun e w' => e = .returned (.bool true) ∧ Below w.heap.size w w' := by
  have HA := Lib.hid (fun (W : World) (h : Rv W p1 A1 c1 l1 q1 B1 d1 m1 z1 4) => plog2floor_neg h hn)
  have HB := Lib.hid (fun (W : World) (h : Rv W p1 A1 c1 l1 q1 B1 d1 m1 z1 4) => plog2ceil_neg h hn)
  have HC := Lib.hid (fun (W : World) (h : Rv W p1 A1 c1 l1 q1 B1 d1 m1 z1 4) => rlog2floor_neg h hn)
  have HD := Lib.hid (fun (W : World) (h : Rv W p1 A1 c1 l1 q1 B1 d1 m1 z1 4) => rlog2ceil_neg h hn)
  clear hn
  have HF1 := Lib.hid (fun (W : World) => gfew p1 A1 c1 l1.length q1 B1 d1 m1.length true (Lib.hid f1) W)
  clear f1
  unfold ratV
  go_enter Tryz.func5, Tryz.ntmps5
  go_wp2_with fail
  have t1 : Four (w.alloc (.cells #[.bool p1, .slice A1 l1.length c1, .bool q1, .slice B1 m1.length d1] 26)) w.heap.size (.bool p1) (.slice A1 l1.length c1) (.bool q1) (.slice B1 m1.length d1) := Four.new_ w (.bool p1) (.slice A1 l1.length c1) (.bool q1) (.slice B1 m1.length d1) 26
  have bel : Below w.heap.size w (w.alloc (.cells #[.bool p1, .slice A1 l1.length c1, .bool q1, .slice B1 m1.length d1] 26)) := (Below.refl _ _).alloc (Nat.le_refl _) _
  generalize (w.alloc (.cells #[.bool p1, .slice A1 l1.length c1, .bool q1, .slice B1 m1.length d1] 26)) = wx at t1 bel ⊢
  refine (rknown_ok _ (ht.below bel) (mx.below_ bel)).mono ?_
  rintro e w2 ⟨rfl, hb⟩
  replace t1 := t1.below hb t1.lt
  replace bel := bel.trans (hb.mono bel.size)
  clear hb
  have t1_0 := t1.c0
  have t1_1 := t1.c1
  have t1_2 := t1.c2
  have t1_3 := t1.c3
  go_wp2_with fail
  refine (HF1.out _).mono ?_
  rintro e w3 ⟨rfl, hb⟩
  clear t1_0 t1_1 t1_2 t1_3
  replace t1 := t1.below hb t1.lt
  replace bel := bel.trans (hb.mono bel.size)
  clear hb
  clear HF1
  have X := h1.below bel
  have t1_0 := t1.c0
  have t1_1 := t1.c1
  have t1_2 := t1.c2
  have t1_3 := t1.c3
  go_wp2_with fail
  refine (HA.out _ X).mono ?_
  rintro e w4 ⟨rfl, hb⟩
  clear t1_0 t1_1 t1_2 t1_3
  replace t1 := t1.below hb t1.lt
  replace bel := bel.trans (hb.mono bel.size)
  clear hb
  clear X
  have X := h1.below bel
  have t1_0 := t1.c0
  have t1_1 := t1.c1
  have t1_2 := t1.c2
  have t1_3 := t1.c3
  go_wp2_with fail
  refine (HB.out _ X).mono ?_
  rintro e w5 ⟨rfl, hb⟩
  clear t1_0 t1_1 t1_2 t1_3
  replace t1 := t1.below hb t1.lt
  replace bel := bel.trans (hb.mono bel.size)
  clear hb
  clear X
  have X := h1.below bel
  have t1_0 := t1.c0
  have t1_1 := t1.c1
  have t1_2 := t1.c2
  have t1_3 := t1.c3
  go_wp2_with fail
  refine (HC.out _ X).mono ?_
  rintro e w6 ⟨rfl, hb⟩
  clear t1_0 t1_1 t1_2 t1_3
  replace t1 := t1.below hb t1.lt
  replace bel := bel.trans (hb.mono bel.size)
  clear hb
  clear X
  have X := h1.below bel
  have t1_0 := t1.c0
  have t1_1 := t1.c1
  have t1_2 := t1.c2
  have t1_3 := t1.c3
  go_wp2_with fail
  refine (HD.out _ X).mono ?_
  rintro e w7 ⟨rfl, hb⟩
  clear t1_0 t1_1 t1_2 t1_3
  replace t1 := t1.below hb t1.lt
  replace bel := bel.trans (hb.mono bel.size)
  clear hb
  clear X
  go_wp2_with fail
  go_ret
  exact ⟨rfl, bel⟩

theorem log_main (p1 : Bool) (A1 : Option Addr) (l1 : List Nat) (c1 : Nat) (q1 : Bool) (B1 : Option Addr) (m1 : List Nat) (d1 : Nat) {z1 : Rat} (w : World) (h1 : Rv w p1 A1 c1 l1 q1 B1 d1 m1 z1 4) (ht : Tabs w) (mx : Mx w) (f1 : decide (l1.length ≤ 4 ∧ m1.length ≤ 4) = true) :
    Calls Tryz.prog 5 #[ratV p1 A1 l1.length c1 q1 B1 m1.length d1] w fun e w' => e = .returned (.bool true) ∧ Below w.heap.size w w' := by
  rcases Int.lt_or_le 0 z1.num with h | h
  · exact log_pos p1 A1 l1 c1 q1 B1 m1 d1 w h1 ht mx f1 h
  · exact log_neg p1 A1 l1 c1 q1 B1 m1 d1 w h1 ht mx f1 h

theorem log_walk (p1 : Bool) (A1 : Option Addr) (c1 : Nat) (l1 : List Nat) (q1 : Bool) (B1 : Option Addr) (d1 : Nat) (m1 : List Nat) (w : World) (h1 : Sl w w.heap.size A1 c1 l1) (k1 : Sl w w.heap.size B1 d1 m1) (ht : Tabs w) (mx : Mx w) :
    Calls Tryz.prog 5 #[ratV p1 A1 l1.length c1 q1 B1 m1.length d1] w fun e w' => e = .returned (.bool true) ∧ Below w.heap.size w w' := by
  cases f1 : decide (l1.length ≤ 4 ∧ m1.length ≤ 4) with
  | false => exact log_few1 p1 A1 l1 c1 q1 B1 m1 d1 w ht mx f1
  | true =>
    have r1 : Rv w p1 A1 c1 l1 q1 B1 d1 m1 _ 4 := ⟨_, _, ⟨h1, rfl, (of_decide_eq_true f1).1⟩, ⟨k1, rfl, (of_decide_eq_true f1).2⟩, rfl⟩
    exact log_main p1 A1 l1 c1 q1 B1 m1 d1 w r1 ht mx f1
end Go.Proofs.YtkpomjdablopaaaGreatDoor
/- Walks of package rational: digits of the reference. -/
namespace Go.Proofs.YtkpomjdablopaaaGreatDoor
open Go.RowKit
set_option linter.unusedVariables false

theorem index_run2 {s : ByteArray} {i : Nat} {x : Int} (h : i < s.size) (hx : ((s[i].toNat : Nat) : Int) = x) (W : World) : (Instr.index 9 (.string s) (.int .i64 (i : Int))).run Tryz.prog W = .ok (.int .u8 x) W := by
  have e : ((i : Nat) : Int).toNat = i := by omega
  rw [run_index_string W _ s _ _ Tryz.underlying9, dif_pos ⟨by omega, by omega⟩, ← hx]
  simp only [e]
theorem take_dig {s : ByteArray} {i : Nat} (h : i < s.size) (ha : ((bs s).take i).all Kt.digC = true) (hd : Kt.digC s[i] = true) : ((bs s).take (i + 1)).all Kt.digC = true := by
  have hl : i < (bs s).length := by rw [bs_length]; exact h
  have h2 := List.drop_eq_getElem_cons hl
  rw [drop_at h] at h2
  injection h2 with h2 _
  rw [List.take_succ_eq_append_getElem hl, List.all_append, ha, ← h2]
  simp [hd]
theorem not_dig {s : ByteArray} {i : Nat} (h : i < s.size) (hd : Kt.digC s[i] = false) : Kt.isNum (bs s) = false := by
  have hl : i < (bs s).length := by rw [bs_length]; exact h
  have h2 := List.drop_eq_getElem_cons hl
  rw [drop_at h] at h2
  injection h2 with h2 _
  cases hn : Kt.isNum (bs s) with
  | false => rfl
  | true =>
    have h3 := List.all_eq_true.1 (Kt.isNum_all hn) _ (List.getElem_mem hl)
    rw [← h2, hd] at h3
    cases h3
set_option maxRecDepth 100000 in
set_option maxHeartbeats 1000000 in
theorem rdigits_any (s : ByteArray) (hs : s.size ≤ 1000000) (w : World) : Calls Tryz.prog 35 #[.string s] w fun e w' => e = .returned (.bool (Kt.isNum (bs s))) ∧ Below w.heap.size w w' := by
  obtain ⟨R, hR⟩ : ∃ R, Hid (Kt.isNum (bs s) = R) := ⟨_, Lib.hid rfl⟩
  rw [hR.out]
  go_enter Tryz.func35, Tryz.ntmps35
  go_wp2_with fail
  go_loopw [3] (fun iv wr => ∃ i : Nat, i ≤ s.size ∧ iv = .int .i64 (i : Int) ∧ Hid (((bs s).take i).all Kt.digC = true) ∧ Below w.heap.size w wr) (fun iv _ => s.size - (intOf iv).toNat)
  case atStart => exact ⟨0, Nat.zero_le _, rfl, Lib.hid rfl, Below.refl _ _⟩
  case round =>
    obtain ⟨i, hi, rfl, HA, bel⟩ := hrel
    by_cases hlt : i < s.size
    · have hltI : (i : Int) < (s.size : Int) := by omega
      obtain ⟨x, hx⟩ : ∃ x : Nat, s[i].toNat = x := ⟨_, rfl⟩
      have hix := index_run2 (x := (x : Int)) hlt (by rw [hx])
      cases hd : Kt.digC s[i] with
      | false =>
        obtain rfl : false = R := by rw [← hR.out]; exact (not_dig hlt hd).symm
        have hq : x < 48 ∨ 57 < x := by
          unfold Kt.digC at hd
          rw [hx] at hd
          rcases Nat.lt_or_ge x 48 with h | h
          · exact .inl h
          · right
            rw [decide_eq_true h, Bool.true_and] at hd
            have := of_decide_eq_false hd
            omega
        clear hd hx
        rcases hq with h | h
        · have h1 : (x : Int) < 48 := by omega
          have h2 : decide ((x : Int) < 48) = true := decide_eq_true h1
          go_wp2_with fail
          go_ret
          exact ⟨rfl, bel⟩
        · have h1 : ¬ (x : Int) < 48 := by omega
          have h2 : decide ((x : Int) < 48) = false := decide_eq_false h1
          have h3 : (57 : Int) < (x : Int) := by omega
          have h4 : decide ((57 : Int) < (x : Int)) = true := decide_eq_true h3
          go_wp2_with fail
          go_ret
          exact ⟨rfl, bel⟩
      | true =>
        have HA2 := Lib.hid (take_dig hlt HA.out hd)
        have hq : 48 ≤ x ∧ x ≤ 57 := by
          unfold Kt.digC at hd
          rw [hx, Bool.and_eq_true] at hd
          exact ⟨of_decide_eq_true hd.1, of_decide_eq_true hd.2⟩
        have h1 : ¬ (x : Int) < 48 := by omega
        have h2 : decide ((x : Int) < 48) = false := decide_eq_false h1
        have h3 : ¬ (57 : Int) < (x : Int) := by omega
        have h4 : decide ((57 : Int) < (x : Int)) = false := decide_eq_false h3
        clear hd hx hq
        go_wp2_with fail
        go_roundw
        case rel => exact ⟨i + 1, by omega, by first | go_num | rfl, HA2, bel⟩
        case measure => first | (simp [intOf]; omega) | omega
    · obtain rfl : i = s.size := by omega
      have hall : (bs s).all Kt.digC = true := by have h := HA.out; rwa [← bs_length, List.take_length] at h
      have hn := Kt.num_of hall
      rw [hR.out] at hn
      have hl := bs_length s
      by_cases h0 : s.size = 0
      · obtain rfl : R = false := by rw [hn, List.eq_nil_of_length_eq_zero (l := bs s) (by omega)]; rfl
        have q1 : ((s.size : Int) == 1) = false := by rw [beq_eq_false_iff_ne]; omega
        have q2 : ¬ (1 : Int) < (s.size : Int) := by omega
        have q3 : decide ((1 : Int) < (s.size : Int)) = false := decide_eq_false q2
        clear hn hall HA
        go_wp2_with fail
        go_ret
        exact ⟨rfl, bel⟩
      · have hp : 0 < s.size := by omega
        have hd0 := drop_at hp
        rw [List.drop_zero] at hd0
        by_cases h1 : s.size = 1
        · have hd1 : bs s = [s[0]] := by
            rw [hd0]
            congr 1
            exact List.eq_nil_of_length_eq_zero (by rw [List.length_drop]; omega)
          obtain rfl : R = true := by
            rw [hn, hd1]
            by_cases h48 : s[0] = 48
            · rw [h48]; rfl
            · simp [h48]
          have q1 : ((s.size : Int) == 1) = true := by rw [h1]; rfl
          clear hn hall HA hd0 hd1
          go_wp2_with fail
          go_ret
          exact ⟨rfl, bel⟩
        · have q1 : ((s.size : Int) == 1) = false := by rw [beq_eq_false_iff_ne]; omega
          have q2 : (1 : Int) < (s.size : Int) := by omega
          have q3 : decide ((1 : Int) < (s.size : Int)) = true := decide_eq_true q2
          have hne : (bs s == [48]) = false := by
            rw [beq_eq_false_iff_ne]
            intro e
            have := congrArg List.length e
            rw [hl] at this
            exact h1 this
          by_cases h48 : s[0].toNat = 48
          · obtain rfl : R = false := by
              rw [hn, hne, hd0, UInt8.toNat_inj.1 (show s[0].toNat = (48 : UInt8).toNat from h48)]; rfl
            have q4 : (((s[0].toNat : Nat) : Int) != 48) = false := by rw [h48]; rfl
            clear hn hall HA hd0 hne
            go_wp2_with fail
            go_ret
            exact ⟨rfl, bel⟩
          · obtain rfl : R = true := by
              have h9 : s[0] ≠ 48 := fun e => h48 (by rw [e]; rfl)
              rw [hn, hne, hd0]
              simp [h9]
            have q4 : (((s[0].toNat : Nat) : Int) != 48) = true := by
              rw [bne_iff_ne]; omega
            clear hn hall HA hd0 hne
            go_wp2_with fail
            go_ret
            exact ⟨rfl, bel⟩
end Go.Proofs.YtkpomjdablopaaaGreatDoor
/- Walks of package rational: whole of the reference. -/
namespace Go.Proofs.YtkpomjdablopaaaGreatDoor
open Go.RowKit
set_option linter.unusedVariables false

set_option maxRecDepth 100000 in
set_option maxHeartbeats 2000000 in
theorem rwhole_any (s : ByteArray) (hs : s.size ≤ 90) (hd : (bs s).all Kt.digC = true) (w : World) :
    Calls Tryz.prog 36 #[.string s] w (GI ((Kt.valN (bs s) : Nat) : Int) 90 w) := by
  have HLEN := Lib.hid (bs_length s)
  have HDG := Lib.hid hd
  have HS := Lib.hid hs
  have HPW : Hid (∀ j, Kt.valN ((bs s).take j) < Kn.pw 90) := Lib.hid (fun j => by
    have h1 := Kt.valN_lt ((bs s).take j) (List.all_eq_true.2 fun x hx => List.all_eq_true.1 hd x (List.mem_of_mem_take hx))
    have h2 : 10 ^ ((bs s).take j).length ≤ 10 ^ 90 := Nat.pow_le_pow_right (by decide) (by rw [List.length_take, bs_length]; omega)
    have h3 : 10 ^ 90 ≤ Kn.pw 90 := Nat.pow_le_pow_left (by decide) 90
    omega)
  have HZ := Lib.hid (fun (W : World) => (rsmall_of (fun W => grofi (by decide) W) W : Calls Tryz.prog 32 #[.int .i64 0] W (GI 0 2 W)))
  have HT := Lib.hid (fun (W : World) => (rsmall_of (fun W => grofi (by decide) W) W : Calls Tryz.prog 32 #[.int .i64 10] W (GI 10 2 W)))
  obtain ⟨V, hV⟩ : ∃ V : Int, Hid (((Kt.valN (bs s) : Nat) : Int) = V) := ⟨_, Lib.hid rfl⟩
  rw [hV.out]
  clear hd hs
  go_enter Tryz.func36, Tryz.ntmps36
  go_wp2_with fail
  have t2 : Two (w.alloc (.cells #[.bool false, .slice none 0 0] 24)) w.heap.size (.bool false) (.slice none 0 0) := Two.new_ w (.bool false) (.slice none 0 0) 24
  have bel : Below w.heap.size w (w.alloc (.cells #[.bool false, .slice none 0 0] 24)) := (Below.refl _ _).alloc (Nat.le_refl _) _
  generalize (w.alloc (.cells #[.bool false, .slice none 0 0] 24)) = wx at t2 bel ⊢
  refine (HZ.out _).mono ?_
  rintro e w2 ⟨p3, A3, c3, l3, rfl, C3, hb⟩
  replace t2 := t2.below hb t2.lt
  replace bel := bel.trans (hb.mono bel.size)
  clear hb
  go_upto_region 2 with (fail)
  have hg3 : w.heap.size < w2.heap.size := t2.lt
  have t3 : Two (w2.alloc (.cells #[.bool p3, .slice A3 l3.length c3] 24)) w2.heap.size (.bool p3) (.slice A3 l3.length c3) := Two.new_ w2 (.bool p3) (.slice A3 l3.length c3) 24
  have bn : Below w2.heap.size w2 (w2.alloc (.cells #[.bool p3, .slice A3 l3.length c3] 24)) := (Below.refl _ _).alloc (Nat.le_refl _) _
  replace t2 := t2.below bn t2.lt
  replace bel := bel.trans (bn.mono bel.size)
  replace C3 := C3.below bn
  clear bn
  generalize (w2.alloc (.cells #[.bool p3, .slice A3 l3.length c3] 24)) = v1 at t2 bel C3 t3 ⊢
  generalize w2.heap.size = g3 at t2 bel C3 t3 hg3 ⊢
  go_wp2_with fail
  go_loopw [4] (fun iv wr => ∃ (i : Nat) (pa : Bool) (Aa : Option Addr) (ca : Nat) (la : List Nat), i ≤ s.size ∧ iv = .int .i64 (i : Int) ∧ Two wr w.heap.size (.bool false) (.slice none 0 0) ∧ Two wr g3 (.bool pa) (.slice Aa la.length ca) ∧ Cn wr pa Aa ca la ((Kt.valN ((bs s).take i) : Nat) : Int) 90 ∧ Below w.heap.size w wr) (fun iv _ => s.size - (intOf iv).toNat)
  case atStart => exact ⟨0, _, _, _, _, Nat.zero_le _, rfl, t2, t3, cn_re C3 (by show (0 : Nat) < Kn.pw 90; decide +kernel), bel⟩
  case round =>
    clear t2 t3 C3 bel
    obtain ⟨i, pa, Aa, ca, la, hi, rfl, t2, t3, CX, bel⟩ := hrel
    by_cases hlt : i < s.size
    · have hltI : (i : Int) < (s.size : Int) := by omega
      have hdc : Kt.digC s[i] = true := List.all_eq_true.1 HDG.out _ (by show s[i] ∈ s.data.toList; exact Array.mem_toList_iff.2 (Array.getElem_mem (xs := s.data) (i := i) hlt))
      obtain ⟨dg, hdg, hd9⟩ : ∃ dg, s[i].toNat = dg + 48 ∧ dg ≤ 9 := by
        unfold Kt.digC at hdc
        simp at hdc
        exact ⟨s[i].toNat - 48, by omega, by omega⟩
      have hix := index_run2 (s := s) (i := i) (x := (dg : Int) + 48) hlt (by omega)
      obtain ⟨X, hX⟩ : ∃ X, X = Kt.valN ((bs s).take i) := ⟨_, rfl⟩
      have HV2 : Hid (((X : Nat) : Int) * 10 + (dg : Int) = ((Kt.valN ((bs s).take (i + 1)) : Nat) : Int)) := Lib.hid (by
        have h2 := List.drop_eq_getElem_cons (show i < (bs s).length by rw [bs_length]; exact hlt)
        rw [drop_at hlt] at h2
        injection h2 with h2 _
        rw [List.take_succ_eq_append_getElem (show i < (bs s).length by rw [bs_length]; exact hlt), Kt.val_snoc, ← h2, hdg, hX]
        omega)
      rw [← hX] at CX
      have HSI := Lib.hid (show i + 1 ≤ s.size by omega)
      have hw1 : IntKind.u8.wrap ((dg : Int) + 48 - 48) = (dg : Int) := by rw [Int.add_sub_cancel]; exact IntWalk.u8_in _ (by omega)
      have hw1b : IntKind.u8.wrap (dg : Int) = (dg : Int) := IntWalk.u8_in _ (by omega)
      have hw2 : IntKind.i64.wrap (dg : Int) = (dg : Int) := IntWalk.i64_in _ (by omega)
      have hwk : IntKind.i64.wrap ((i : Int) + 1) = ((i + 1 : Nat) : Int) := (IntWalk.i64_in _ (by have := HS.out; omega)).trans (by omega)
      have HD := Lib.hid (fun (W : World) => (rsmall_of (fun W => grofi (by omega) W) W : Calls Tryz.prog 32 #[.int .i64 (dg : Int)] W (GI (dg : Int) 2 W)))
      have HMU := Lib.hid (fun (W : World) (p : Bool) (A : Option Addr) (c : Nat) (l : List Nat) (h : Cn W pa Aa ca la (X : Int) 90) (h' : Cn W p A c l 10 2) => (grmul h.iv h'.iv (by decide) (by decide) : Calls Tryz.prog 75 #[.agg #[.bool pa, .slice Aa la.length ca], .agg #[.bool p, .slice A l.length c]] W (GI ((X : Int) * 10) 92 W)))
      have HAD := Lib.hid (fun (W : World) (p : Bool) (A : Option Addr) (c : Nat) (l : List Nat) (q : Bool) (B : Option Addr) (d : Nat) (m : List Nat) (h : Cn W p A c l ((X : Int) * 10) 92) (h' : Cn W q B d m (dg : Int) 2) => (gradd h.iv h'.iv (by decide) (by decide) : Calls Tryz.prog 74 #[.agg #[.bool p, .slice A l.length c], .agg #[.bool q, .slice B m.length d]] W (GI ((X : Int) * 10 + (dg : Int)) 93 W)))
      clear hdc hdg hX
      go_upto_region 5 with (fail)
      have x0 := t3.c0
      have x1 := t3.c1
      have f0 := t3.fr 0
      have f1 := t3.fr 1
      replace t2 := t2.drew
      replace t3 := t3.drew
      replace CX := CX.drew
      replace bel := bDrew1 bel
      have x0 := t3.c0
      have x1 := t3.c1
      have f0 := t3.fr 0
      have f1 := t3.fr 1
      go_region_law (first
          | (go_simp; go_at_call 32; (with_reducible refine (HT.out _).mono ?_); rintro e wa ⟨q1, D1, e1, m1, rfl, F, hb⟩; replace t2 := t2.below hb t2.lt; replace t3 := t3.below hb t3.lt; replace CX := CX.below hb; replace bel := bel.trans (hb.mono bel.size); (try replace E1 := E1.below hb); (try replace E2 := E2.below hb); (try replace E3 := E3.below hb); have E1 := F; clear F hb; have x0 := t3.c0; have x1 := t3.c1; have f0 := t3.fr 0; have f1 := t3.fr 1)
          | (go_simp; go_at_call 32; (with_reducible refine (HD.out _).mono ?_); rintro e wa ⟨q3, D3, e3, m3, rfl, F, hb⟩; replace t2 := t2.below hb t2.lt; replace t3 := t3.below hb t3.lt; replace CX := CX.below hb; replace bel := bel.trans (hb.mono bel.size); (try replace E1 := E1.below hb); (try replace E2 := E2.below hb); (try replace E3 := E3.below hb); have E3 := F; clear F hb; have x0 := t3.c0; have x1 := t3.c1; have f0 := t3.fr 0; have f1 := t3.fr 1)
          | (go_simp; go_at_call 75; (with_reducible refine (HMU.out _ _ _ _ _ CX E1).mono ?_); rintro e wa ⟨q2, D2, e2, m2, rfl, F, hb⟩; replace t2 := t2.below hb t2.lt; replace t3 := t3.below hb t3.lt; replace CX := CX.below hb; replace bel := bel.trans (hb.mono bel.size); (try replace E1 := E1.below hb); (try replace E2 := E2.below hb); (try replace E3 := E3.below hb); have E2 := F; clear F hb; have x0 := t3.c0; have x1 := t3.c1; have f0 := t3.fr 0; have f1 := t3.fr 1)
          | (go_simp; go_at_call 74; (with_reducible refine (HAD.out _ _ _ _ _ _ _ _ _ E2 E3).mono ?_); rintro e wa ⟨q4, D4, e4, m4, rfl, F, hb⟩; replace t2 := t2.below hb t2.lt; replace t3 := t3.below hb t3.lt; replace CX := CX.below hb; replace bel := bel.trans (hb.mono bel.size); (try replace E1 := E1.below hb); (try replace E2 := E2.below hb); (try replace E3 := E3.below hb); have E4 := F; clear F hb; have x0 := t3.c0; have x1 := t3.c1; have f0 := t3.fr 0; have f1 := t3.fr 1))
      all_goals
        rw [HV2.out] at E4
        have K1 := Lib.hid (t2.far2 (g := g3) (by omega) (.bool q4) (.slice D4 m4.length e4))
        have K2 := Lib.hid (t3.put2 (.bool q4) (.slice D4 m4.length e4))
        have K3 := Lib.hid ((cn_re (k := 90) E4 (by rw [Int.natAbs_natCast]; exact HPW.out _)).put2 t3 (.bool q4) (.slice D4 m4.length e4))
        have K4 := Lib.hid (below_set2 bel (b := g3) (by omega) (.bool q4) (.slice D4 m4.length e4))
        go_wp2_with fail
        go_roundw
        case rel => exact ⟨i + 1, _, _, _, _, HSI.out, by first | go_num | rfl, K1.out, K2.out, K3.out, K4.out⟩
        case measure => (have := HSI.out; first | (simp [intOf]; omega) | (simp [intOf, hwk]; omega))
    · obtain rfl : i = s.size := by omega
      have hv : ((Kt.valN ((bs s).take s.size) : Nat) : Int) = V := by rw [← hV.out, ← HLEN.out, List.take_length]
      rw [hv] at CX
      clear hv
      have a0 := t3.c0
      have a1 := t3.c1
      have b0 := t2.c0
      have b1 := t2.c1
      have f0 := t2.fr 0
      have f1 := t2.fr 1
      have KT := Lib.hid (t2.put2 (.bool pa) (.slice Aa la.length ca))
      have KX := Lib.hid (CX.put2 t2 (.bool pa) (.slice Aa la.length ca))
      have KB := Lib.hid (below_set2 bel (b := w.heap.size) (by omega) (.bool pa) (.slice Aa la.length ca))
      clear t2 t3 CX bel
      go_wp2_with fail
      have r0 := KT.out.c0
      have r1 := KT.out.c1
      unfold set2 at r0 r1
      refine bodyPost_ret (v := .agg #[.bool pa, .slice Aa la.length ca]) (by simp [results, Tryz.results36, go_sem, r0, r1]) rfl ?_
      exact ⟨pa, Aa, ca, la, rfl, KX.out, KB.out⟩
end Go.Proofs.YtkpomjdablopaaaGreatDoor
/- Walks of package rational: Parse of the reference, errors. -/
namespace Go.Proofs.YtkpomjdablopaaaGreatDoor
open Go.RowKit
set_option linter.unusedVariables false

theorem head_neg {s : ByteArray} (h : Kt.negB (bs s) = true) : ∃ h0 : 0 < s.size, s[0].toNat = 45 := by
  have hp : 0 < s.size := by
    rcases Nat.eq_zero_or_pos s.size with h0 | h0
    · rw [List.eq_nil_of_length_eq_zero (l := bs s) (by rw [bs_length]; exact h0)] at h; cases h
    · exact h0
  refine ⟨hp, ?_⟩
  have hd0 := drop_at hp
  rw [List.drop_zero] at hd0
  unfold Kt.negB at h
  rw [hd0] at h
  have : s[0] = 45 := by simpa using h
  rw [this]; rfl
theorem head_pos {s : ByteArray} (h : Kt.negB (bs s) = false) (hp : 0 < s.size) : ((s[0].toNat : Nat) : Int) ≠ 45 := by
  have hd0 := drop_at hp
  rw [List.drop_zero] at hd0
  unfold Kt.negB at h
  rw [hd0] at h
  intro e
  have e2 : s[0] = 45 := UInt8.toNat_inj.1 (show s[0].toNat = (45 : UInt8).toNat from by have : (45 : UInt8).toNat = 45 := rfl; omega)
  rw [e2] at h
  cases h
theorem body_ext {s : ByteArray} (h : Kt.negB (bs s) = true) : Kt.body (bs s) = bs (s.extract 1 s.size) := by
  unfold Kt.body
  rw [h, if_pos rfl]
  exact (ext_drop s 1).symm
theorem at_byte {d : ByteArray} {i : Nat} (h : i < d.size) : (bs d)[i]? = some d[i] := by
  have hl : i < (bs d).length := by rw [bs_length]; exact h
  have h2 := List.drop_eq_getElem_cons hl
  rw [drop_at h] at h2
  injection h2 with h2 _
  rw [List.getElem?_eq_getElem hl, ← h2]
theorem ne47 {d : ByteArray} {i : Nat} (h : i < d.size) (hn : (bs d)[i]? ≠ some 47) : ((d[i].toNat : Nat) : Int) ≠ 47 := by
  intro e
  refine hn ?_
  rw [at_byte h]
  congr 1
  exact UInt8.toNat_inj.1 (show d[i].toNat = (47 : UInt8).toNat from by have : (47 : UInt8).toNat = 47 := rfl; omega)
theorem eq47 {d : ByteArray} {i : Nat} (h : i < d.size) (hn : (bs d)[i]? = some 47) : ((d[i].toNat : Nat) : Int) = 47 := by
  rw [at_byte h] at hn
  injection hn with hn
  rw [hn]; rfl
/-- the loop's state -/
def PSt (d : ByteArray) (k : Nat) (D B : List UInt8) (i : Nat) (U V : ByteArray) : Prop := (i ≤ k ∧ U = d ∧ V = ⟨#[49]⟩) ∨ (k < i ∧ U = mkB D ∧ V = mkB B)
/-- what is known of the text behind the sign -/
structure PLoop (d : ByteArray) (k : Nat) (D B : List UInt8) : Prop where
  le : k ≤ d.size
  no : ∀ i, i < k → (bs d)[i]? ≠ some 47
  or : (k < d.size ∧ (bs d)[k]? = some 47 ∧ D = (bs d).take k ∧ B = (bs d).drop (k + 1)) ∨ (k = d.size ∧ D = bs d ∧ B = [49])
theorem PLoop.of {s d : ByteArray} (h : Kt.body (bs s) = bs d) : ∃ k, PLoop d k (Kt.prD (bs s)) (Kt.prB (bs s)) := by
  obtain ⟨k, h1, h2, h3⟩ := Kt.pr_loop (bs s)
  rw [h] at h1 h2 h3
  rw [bs_length] at h1 h3
  exact ⟨k, h1, h2, h3⟩
theorem PLoop.cut {d : ByteArray} {k : Nat} {D B : List UInt8} (h : PLoop d k D B) (hk : k < d.size) : (bs d)[k]? = some 47 ∧ d.extract 0 k = mkB D ∧ d.extract (k + 1) d.size = mkB B := by
  rcases h.or with ⟨_, h1, h2, h3⟩ | ⟨h1, _⟩
  · exact ⟨h1, bs_inj (by rw [ext_take, bs_mk, h2]), bs_inj (by rw [ext_drop, bs_mk, h3])⟩
  · omega
theorem PLoop.sz {d : ByteArray} {k : Nat} {D B : List UInt8} (h : PLoop d k D B) (hk : k < d.size) : (mkB D).size = k := by
  rcases h.or with ⟨_, h1, h2, h3⟩ | ⟨h1, _⟩
  · rw [mk_size, h2, List.length_take, bs_length]; omega
  · omega
theorem PSt.fin {d : ByteArray} {k : Nat} {D B : List UInt8} {U V : ByteArray} (h : PLoop d k D B) (hs : PSt d k D B d.size U V) : U = mkB D ∧ V = mkB B := by
  rcases hs with ⟨h1, rfl, rfl⟩ | ⟨_, h2, h3⟩
  · rcases h.or with ⟨h4, _⟩ | ⟨_, h2, h3⟩
    · omega
    · rw [h2, h3, mk_bs]; exact ⟨rfl, rfl⟩
  · exact ⟨h2, h3⟩
set_option maxRecDepth 100000 in
set_option maxHeartbeats 1000000 in
theorem rparse_long {s : ByteArray} (hs : 8192 < s.size) (w : World) :
    Calls Tryz.prog 13 #[.string s] w (PBad 5 w) := by
  have z0 : (8192 : Int) < (s.size : Int) := by omega
  clear hs
  go_enter Tryz.func13, Tryz.ntmps13
  go_wp2_with fail
  have t2 : Four (w.alloc (.cells #[.bool false, .slice none 0 0, .bool false, .slice none 0 0] 26)) w.heap.size (.bool false) (.slice none 0 0) (.bool false) (.slice none 0 0) := Four.new_ w (.bool false) (.slice none 0 0) (.bool false) (.slice none 0 0) 26
  have bel : Below w.heap.size w (w.alloc (.cells #[.bool false, .slice none 0 0, .bool false, .slice none 0 0] 26)) := (Below.refl _ _).alloc (Nat.le_refl _) _
  generalize (w.alloc (.cells #[.bool false, .slice none 0 0, .bool false, .slice none 0 0] 26)) = wx at t2 bel ⊢
  have r0 := t2.c0
  have r1 := t2.c1
  have r2 := t2.c2
  have r3 := t2.c3
  refine bodyPost_ret (v := .tuple #[.agg #[.bool false, .slice none 0 0, .bool false, .slice none 0 0], .int .i64 5]) (by simp [results, Tryz.results13, go_sem, r0, r1, r2, r3]) rfl ?_
  exact ⟨rfl, bel⟩

set_option maxRecDepth 100000 in
set_option maxHeartbeats 2000000 in
theorem rparse_bad1E (s : ByteArray) (hs : s.size ≤ 80) {D B : List UInt8} (hD : Kt.prD (bs s) = D) (hB : Kt.prB (bs s) = B) (hp0 : s.size = 0) (hV1 : Kt.isNum D = false) (w : World) :
    Calls Tryz.prog 13 #[.string s] w (PBad 6 w) := by
  have z0 : ¬ (8192 : Int) < (s.size : Int) := by omega
  have hp1 : ¬ (0 : Int) < (s.size : Int) := by omega
  have hp2 : decide ((0 : Int) < (s.size : Int)) = false := decide_eq_false hp1
  have hN : Kt.negB (bs s) = false := by rw [List.eq_nil_of_length_eq_zero (l := bs s) (by rw [bs_length]; exact hp0)]; rfl
  have HBD : Kt.body (bs s) = bs s := Kt.body_pos hN
  obtain ⟨k, hk⟩ := PLoop.of HBD
  rw [hD, hB] at hk
  have HL := Lib.hid hk
  have hlD : D.length ≤ 90 ∧ B.length ≤ 91 := by have h := Kt.pr_len (bs s); rw [hD, hB, bs_length] at h; omega
  have HI1 := Lib.hid (fun (W : World) => (by have h := rdigits_any (mkB D) (by rw [mk_size]; omega) W; rw [bs_mk, hV1] at h; exact h : Calls Tryz.prog 35 #[.string (mkB D)] W fun e w' => e = .returned (.bool false) ∧ Below W.heap.size W w'))
  have HS := Lib.hid hs
  clear HBD hk hN hV1 hlD hD hB hs
  go_enter Tryz.func13, Tryz.ntmps13
  go_wp2_with fail
  have t2 : Four (w.alloc (.cells #[.bool false, .slice none 0 0, .bool false, .slice none 0 0] 26)) w.heap.size (.bool false) (.slice none 0 0) (.bool false) (.slice none 0 0) := Four.new_ w (.bool false) (.slice none 0 0) (.bool false) (.slice none 0 0) 26
  have bel : Below w.heap.size w (w.alloc (.cells #[.bool false, .slice none 0 0, .bool false, .slice none 0 0] 26)) := (Below.refl _ _).alloc (Nat.le_refl _) _
  generalize (w.alloc (.cells #[.bool false, .slice none 0 0, .bool false, .slice none 0 0] 26)) = wx at t2 bel ⊢
  go_upto_region 8 with (fail)
  go_wp2_with fail
  go_loopw [5, 6, 7] (fun nv dv iv wr => ∃ (i : Nat) (U V : ByteArray), i ≤ s.size ∧ iv = .int .i64 (i : Int) ∧ nv = .string U ∧ dv = .string V ∧ Hid (PSt s k D B i U V) ∧ Four wr w.heap.size (.bool false) (.slice none 0 0) (.bool false) (.slice none 0 0) ∧ Below w.heap.size w wr) (fun _ _ iv _ => s.size - (intOf iv).toNat)
  case atStart => exact ⟨0, s, ⟨#[49]⟩, Nat.zero_le _, rfl, rfl, rfl, Lib.hid (.inl ⟨Nat.zero_le _, rfl, rfl⟩), t2, bel⟩
  case round =>
    clear t2 bel
    obtain ⟨i, U, V, hi, rfl, rfl, rfl, HST, t2, bel⟩ := hrel
    by_cases hlt : i < s.size
    · exact absurd hlt (by omega)
    · obtain rfl : i = s.size := by omega
      obtain ⟨rfl, rfl⟩ := HST.out.fin HL.out
      clear HST HL hi hlt
      go_wp2_with fail
      refine (HI1.out _).mono ?_
      rintro e w2 ⟨rfl, hb⟩
      replace t2 := t2.below hb t2.lt
      replace bel := bel.trans (hb.mono bel.size)
      clear hb
      have d0 := t2.c0
      have d1 := t2.c1
      have d2 := t2.c2
      have d3 := t2.c3
      have f0 := t2.fr 0
      have f1 := t2.fr 1
      have f2 := t2.fr 2
      have f3 := t2.fr 3
      have R := Lib.hid (t2.put (.bool false) (.slice none 0 0) (.bool false) (.slice none 0 0))
      have BL := Lib.hid (below_set4 bel (b := w.heap.size) (by omega) (.bool false) (.slice none 0 0) (.bool false) (.slice none 0 0))
      clear t2 bel
      go_wp2_with fail
      have r0 := R.out.c0
      have r1 := R.out.c1
      have r2 := R.out.c2
      have r3 := R.out.c3
      unfold set4 at r0 r1 r2 r3
      refine bodyPost_ret (v := .tuple #[.agg #[.bool false, .slice none 0 0, .bool false, .slice none 0 0], .int .i64 6]) (by simp [results, Tryz.results13, go_sem, r0, r1, r2, r3]) rfl ?_
      exact ⟨rfl, BL.out⟩

set_option maxRecDepth 100000 in
set_option maxHeartbeats 2000000 in
theorem rparse_bad1T (s : ByteArray) (hs : s.size ≤ 80) {D B : List UInt8} (hD : Kt.prD (bs s) = D) (hB : Kt.prB (bs s) = B) (hN : Kt.negB (bs s) = true) (hV1 : Kt.isNum D = false) (w : World) :
    Calls Tryz.prog 13 #[.string s] w (PBad 6 w) := by
  have z0 : ¬ (8192 : Int) < (s.size : Int) := by omega
  obtain ⟨hp0, h45⟩ := head_neg hN
  have hp1 : (0 : Int) < (s.size : Int) := by omega
  have hp2 : (1 : Int) ≤ (s.size : Int) := by omega
  have q0 : (((s[0].toNat : Nat) : Int) == 45) = true := by rw [h45]; rfl
  obtain ⟨d, hd⟩ : ∃ d, d = s.extract 1 s.size := ⟨_, rfl⟩
  have HBD : Kt.body (bs s) = bs d := by rw [hd]; exact body_ext hN
  have hds : d.size ≤ 90 := by rw [hd, ByteArray.size_extract]; omega
  obtain ⟨k, hk⟩ := PLoop.of HBD
  rw [hD, hB] at hk
  have HL := Lib.hid hk
  have hlD : D.length ≤ 90 ∧ B.length ≤ 91 := by have h := Kt.pr_len (bs s); rw [hD, hB, bs_length] at h; omega
  have HI1 := Lib.hid (fun (W : World) => (by have h := rdigits_any (mkB D) (by rw [mk_size]; omega) W; rw [bs_mk, hV1] at h; exact h : Calls Tryz.prog 35 #[.string (mkB D)] W fun e w' => e = .returned (.bool false) ∧ Below W.heap.size W w'))
  have HS := Lib.hid hs
  clear HBD hk hN hV1 hlD hD hB hs h45
  go_enter Tryz.func13, Tryz.ntmps13
  go_wp2_with fail
  have t2 : Four (w.alloc (.cells #[.bool false, .slice none 0 0, .bool false, .slice none 0 0] 26)) w.heap.size (.bool false) (.slice none 0 0) (.bool false) (.slice none 0 0) := Four.new_ w (.bool false) (.slice none 0 0) (.bool false) (.slice none 0 0) 26
  have bel : Below w.heap.size w (w.alloc (.cells #[.bool false, .slice none 0 0, .bool false, .slice none 0 0] 26)) := (Below.refl _ _).alloc (Nat.le_refl _) _
  generalize (w.alloc (.cells #[.bool false, .slice none 0 0, .bool false, .slice none 0 0] 26)) = wx at t2 bel ⊢
  go_upto_region 8 with (fail)
  rw [← hd]
  clear hd
  go_wp2_with fail
  go_loopw [5, 6, 7] (fun nv dv iv wr => ∃ (i : Nat) (U V : ByteArray), i ≤ d.size ∧ iv = .int .i64 (i : Int) ∧ nv = .string U ∧ dv = .string V ∧ Hid (PSt d k D B i U V) ∧ Four wr w.heap.size (.bool false) (.slice none 0 0) (.bool false) (.slice none 0 0) ∧ Below w.heap.size w wr) (fun _ _ iv _ => d.size - (intOf iv).toNat)
  case atStart => exact ⟨0, d, ⟨#[49]⟩, Nat.zero_le _, rfl, rfl, rfl, Lib.hid (.inl ⟨Nat.zero_le _, rfl, rfl⟩), t2, bel⟩
  case round =>
    clear t2 bel
    obtain ⟨i, U, V, hi, rfl, rfl, rfl, HST, t2, bel⟩ := hrel
    by_cases hlt : i < d.size
    · have hltI : (i : Int) < (d.size : Int) := by omega
      obtain ⟨x, hx⟩ : ∃ x : Nat, d[i].toNat = x := ⟨_, rfl⟩
      have hix := index_run2 (s := d) (i := i) (x := (x : Int)) hlt (by rw [hx])
      have HJ := Lib.hid (show i + 1 ≤ d.size by omega)
      have hwk : IntKind.i64.wrap ((i : Int) + 1) = ((i + 1 : Nat) : Int) := (IntWalk.i64_in _ (by have := HS.out; omega)).trans (by omega)
      rcases HST.out with ⟨hik, rfl, rfl⟩ | ⟨hik, hU, hV⟩
      · by_cases hikk : i < k
        · have q1 : ((x : Int) == 47) = false := by rw [beq_eq_false_iff_ne, ← hx]; exact ne47 hlt (HL.out.no i hikk)
          have HS2 : Hid (PSt U k D B (i + 1) U ⟨#[49]⟩) := Lib.hid (.inl ⟨hikk, rfl, rfl⟩)
          clear HST hx hik hikk hlt
          go_wp2_with fail
          go_roundw
          case rel => exact ⟨i + 1, U, ⟨#[49]⟩, HJ.out, by first | go_num | rfl, rfl, rfl, HS2, t2, bel⟩
          case measure => (have := HJ.out; first | (simp [intOf]; omega) | (simp [intOf, hwk]; omega))
        · obtain rfl : i = k := by omega
          obtain ⟨e1, e2, e3⟩ := HL.out.cut hlt
          have hx47 : x = 47 := by have := eq47 hlt e1; omega
          subst hx47
          have HS2 : Hid (PSt U i D B (i + 1) (U.extract 0 i) (U.extract (i + 1) U.size)) := Lib.hid (.inr ⟨Nat.lt_succ_self _, e2, e3⟩)
          have w1 : (i : Int) ≤ (U.size : Int) := by omega
          have w2 : (i : Int) + 1 ≤ (U.size : Int) := by omega
          have w3 : ((i : Int) + 1).toNat = i + 1 := by omega
          clear HST hx hik hikk e1 e2 e3 hlt
          go_wp2_with fail
          go_roundw
          case rel => exact ⟨i + 1, _, _, HJ.out, by first | go_num | rfl, rfl, rfl, HS2, t2, bel⟩
          case measure => (have := HJ.out; first | (simp [intOf]; omega) | (simp [intOf, hwk]; omega))
      · have hsz := HL.out.sz (by omega)
        rw [← hU] at hsz
        have q2 : ((U.size : Int) == (d.size : Int)) = false := by rw [beq_eq_false_iff_ne]; omega
        have HS2 : Hid (PSt d k D B (i + 1) U V) := Lib.hid (.inr ⟨by omega, hU, hV⟩)
        clear HST hik hU hV hsz
        by_cases h47 : x = 47
        · have q1 : ((x : Int) == 47) = true := by rw [h47]; rfl
          clear h47 hx hlt
          go_wp2_with fail
          go_roundw
          case rel => exact ⟨i + 1, U, V, HJ.out, by first | go_num | rfl, rfl, rfl, HS2, t2, bel⟩
          case measure => (have := HJ.out; first | (simp [intOf]; omega) | (simp [intOf, hwk]; omega))
        · have q1 : ((x : Int) == 47) = false := by rw [beq_eq_false_iff_ne]; omega
          clear h47 hx hlt
          go_wp2_with fail
          go_roundw
          case rel => exact ⟨i + 1, U, V, HJ.out, by first | go_num | rfl, rfl, rfl, HS2, t2, bel⟩
          case measure => (have := HJ.out; first | (simp [intOf]; omega) | (simp [intOf, hwk]; omega))
    · obtain rfl : i = d.size := by omega
      obtain ⟨rfl, rfl⟩ := HST.out.fin HL.out
      clear HST HL hi hlt
      go_wp2_with fail
      refine (HI1.out _).mono ?_
      rintro e w2 ⟨rfl, hb⟩
      replace t2 := t2.below hb t2.lt
      replace bel := bel.trans (hb.mono bel.size)
      clear hb
      have d0 := t2.c0
      have d1 := t2.c1
      have d2 := t2.c2
      have d3 := t2.c3
      have f0 := t2.fr 0
      have f1 := t2.fr 1
      have f2 := t2.fr 2
      have f3 := t2.fr 3
      have R := Lib.hid (t2.put (.bool false) (.slice none 0 0) (.bool false) (.slice none 0 0))
      have BL := Lib.hid (below_set4 bel (b := w.heap.size) (by omega) (.bool false) (.slice none 0 0) (.bool false) (.slice none 0 0))
      clear t2 bel
      go_wp2_with fail
      have r0 := R.out.c0
      have r1 := R.out.c1
      have r2 := R.out.c2
      have r3 := R.out.c3
      unfold set4 at r0 r1 r2 r3
      refine bodyPost_ret (v := .tuple #[.agg #[.bool false, .slice none 0 0, .bool false, .slice none 0 0], .int .i64 6]) (by simp [results, Tryz.results13, go_sem, r0, r1, r2, r3]) rfl ?_
      exact ⟨rfl, BL.out⟩

set_option maxRecDepth 100000 in
set_option maxHeartbeats 2000000 in
theorem rparse_bad1F (s : ByteArray) (hs : s.size ≤ 80) {D B : List UInt8} (hD : Kt.prD (bs s) = D) (hB : Kt.prB (bs s) = B) (hN : Kt.negB (bs s) = false) (hp0 : 0 < s.size) (hV1 : Kt.isNum D = false) (w : World) :
    Calls Tryz.prog 13 #[.string s] w (PBad 6 w) := by
  have z0 : ¬ (8192 : Int) < (s.size : Int) := by omega
  have hp1 : (0 : Int) < (s.size : Int) := by omega
  have q0 : (((s[0].toNat : Nat) : Int) == 45) = false := by rw [beq_eq_false_iff_ne]; exact head_pos hN hp0
  have HBD : Kt.body (bs s) = bs s := Kt.body_pos hN
  obtain ⟨k, hk⟩ := PLoop.of HBD
  rw [hD, hB] at hk
  have HL := Lib.hid hk
  have hlD : D.length ≤ 90 ∧ B.length ≤ 91 := by have h := Kt.pr_len (bs s); rw [hD, hB, bs_length] at h; omega
  have HI1 := Lib.hid (fun (W : World) => (by have h := rdigits_any (mkB D) (by rw [mk_size]; omega) W; rw [bs_mk, hV1] at h; exact h : Calls Tryz.prog 35 #[.string (mkB D)] W fun e w' => e = .returned (.bool false) ∧ Below W.heap.size W w'))
  have HS := Lib.hid hs
  clear HBD hk hN hV1 hlD hD hB hs
  go_enter Tryz.func13, Tryz.ntmps13
  go_wp2_with fail
  have t2 : Four (w.alloc (.cells #[.bool false, .slice none 0 0, .bool false, .slice none 0 0] 26)) w.heap.size (.bool false) (.slice none 0 0) (.bool false) (.slice none 0 0) := Four.new_ w (.bool false) (.slice none 0 0) (.bool false) (.slice none 0 0) 26
  have bel : Below w.heap.size w (w.alloc (.cells #[.bool false, .slice none 0 0, .bool false, .slice none 0 0] 26)) := (Below.refl _ _).alloc (Nat.le_refl _) _
  generalize (w.alloc (.cells #[.bool false, .slice none 0 0, .bool false, .slice none 0 0] 26)) = wx at t2 bel ⊢
  go_upto_region 8 with (fail)
  go_wp2_with fail
  go_loopw [5, 6, 7] (fun nv dv iv wr => ∃ (i : Nat) (U V : ByteArray), i ≤ s.size ∧ iv = .int .i64 (i : Int) ∧ nv = .string U ∧ dv = .string V ∧ Hid (PSt s k D B i U V) ∧ Four wr w.heap.size (.bool false) (.slice none 0 0) (.bool false) (.slice none 0 0) ∧ Below w.heap.size w wr) (fun _ _ iv _ => s.size - (intOf iv).toNat)
  case atStart => exact ⟨0, s, ⟨#[49]⟩, Nat.zero_le _, rfl, rfl, rfl, Lib.hid (.inl ⟨Nat.zero_le _, rfl, rfl⟩), t2, bel⟩
  case round =>
    clear t2 bel
    obtain ⟨i, U, V, hi, rfl, rfl, rfl, HST, t2, bel⟩ := hrel
    by_cases hlt : i < s.size
    · have hltI : (i : Int) < (s.size : Int) := by omega
      obtain ⟨x, hx⟩ : ∃ x : Nat, s[i].toNat = x := ⟨_, rfl⟩
      have hix := index_run2 (s := s) (i := i) (x := (x : Int)) hlt (by rw [hx])
      have HJ := Lib.hid (show i + 1 ≤ s.size by omega)
      have hwk : IntKind.i64.wrap ((i : Int) + 1) = ((i + 1 : Nat) : Int) := (IntWalk.i64_in _ (by have := HS.out; omega)).trans (by omega)
      rcases HST.out with ⟨hik, rfl, rfl⟩ | ⟨hik, hU, hV⟩
      · by_cases hikk : i < k
        · have q1 : ((x : Int) == 47) = false := by rw [beq_eq_false_iff_ne, ← hx]; exact ne47 hlt (HL.out.no i hikk)
          have HS2 : Hid (PSt U k D B (i + 1) U ⟨#[49]⟩) := Lib.hid (.inl ⟨hikk, rfl, rfl⟩)
          clear HST hx hik hikk hlt
          go_wp2_with fail
          go_roundw
          case rel => exact ⟨i + 1, U, ⟨#[49]⟩, HJ.out, by first | go_num | rfl, rfl, rfl, HS2, t2, bel⟩
          case measure => (have := HJ.out; first | (simp [intOf]; omega) | (simp [intOf, hwk]; omega))
        · obtain rfl : i = k := by omega
          obtain ⟨e1, e2, e3⟩ := HL.out.cut hlt
          have hx47 : x = 47 := by have := eq47 hlt e1; omega
          subst hx47
          have HS2 : Hid (PSt U i D B (i + 1) (U.extract 0 i) (U.extract (i + 1) U.size)) := Lib.hid (.inr ⟨Nat.lt_succ_self _, e2, e3⟩)
          have w1 : (i : Int) ≤ (U.size : Int) := by omega
          have w2 : (i : Int) + 1 ≤ (U.size : Int) := by omega
          have w3 : ((i : Int) + 1).toNat = i + 1 := by omega
          clear HST hx hik hikk e1 e2 e3 hlt
          go_wp2_with fail
          go_roundw
          case rel => exact ⟨i + 1, _, _, HJ.out, by first | go_num | rfl, rfl, rfl, HS2, t2, bel⟩
          case measure => (have := HJ.out; first | (simp [intOf]; omega) | (simp [intOf, hwk]; omega))
      · have hsz := HL.out.sz (by omega)
        rw [← hU] at hsz
        have q2 : ((U.size : Int) == (s.size : Int)) = false := by rw [beq_eq_false_iff_ne]; omega
        have HS2 : Hid (PSt s k D B (i + 1) U V) := Lib.hid (.inr ⟨by omega, hU, hV⟩)
        clear HST hik hU hV hsz
        by_cases h47 : x = 47
        · have q1 : ((x : Int) == 47) = true := by rw [h47]; rfl
          clear h47 hx hlt
          go_wp2_with fail
          go_roundw
          case rel => exact ⟨i + 1, U, V, HJ.out, by first | go_num | rfl, rfl, rfl, HS2, t2, bel⟩
          case measure => (have := HJ.out; first | (simp [intOf]; omega) | (simp [intOf, hwk]; omega))
        · have q1 : ((x : Int) == 47) = false := by rw [beq_eq_false_iff_ne]; omega
          clear h47 hx hlt
          go_wp2_with fail
          go_roundw
          case rel => exact ⟨i + 1, U, V, HJ.out, by first | go_num | rfl, rfl, rfl, HS2, t2, bel⟩
          case measure => (have := HJ.out; first | (simp [intOf]; omega) | (simp [intOf, hwk]; omega))
    · obtain rfl : i = s.size := by omega
      obtain ⟨rfl, rfl⟩ := HST.out.fin HL.out
      clear HST HL hi hlt
      go_wp2_with fail
      refine (HI1.out _).mono ?_
      rintro e w2 ⟨rfl, hb⟩
      replace t2 := t2.below hb t2.lt
      replace bel := bel.trans (hb.mono bel.size)
      clear hb
      have d0 := t2.c0
      have d1 := t2.c1
      have d2 := t2.c2
      have d3 := t2.c3
      have f0 := t2.fr 0
      have f1 := t2.fr 1
      have f2 := t2.fr 2
      have f3 := t2.fr 3
      have R := Lib.hid (t2.put (.bool false) (.slice none 0 0) (.bool false) (.slice none 0 0))
      have BL := Lib.hid (below_set4 bel (b := w.heap.size) (by omega) (.bool false) (.slice none 0 0) (.bool false) (.slice none 0 0))
      clear t2 bel
      go_wp2_with fail
      have r0 := R.out.c0
      have r1 := R.out.c1
      have r2 := R.out.c2
      have r3 := R.out.c3
      unfold set4 at r0 r1 r2 r3
      refine bodyPost_ret (v := .tuple #[.agg #[.bool false, .slice none 0 0, .bool false, .slice none 0 0], .int .i64 6]) (by simp [results, Tryz.results13, go_sem, r0, r1, r2, r3]) rfl ?_
      exact ⟨rfl, BL.out⟩
end Go.Proofs.YtkpomjdablopaaaGreatDoor
