/- Cost models: plain data and its laws; entries, Check, Default, opCost of package cost. -/
import Derived.Test.YtmemkcaikajnnaaGreatDoorCx
import Derived.RegionTactic
import Derived.BigRegion
namespace Go.Proofs.YtmemkcaikajnnaaGreatDoor
open Go.RowKit Go.Sort
set_option linter.unusedVariables false

/-- a cost model -/
structure C where
  assign : Int
  branch : Int
  loop : Int
  call : Int
  output : Int
  release : Int
  load : Int
  index : Int
  arith : Int
  multiply : Int
  divide : Int
  compare : Int
  logic : Int
namespace C
def list (c : C) : List Int := [c.assign, c.branch, c.loop, c.call, c.output, c.release, c.load, c.index, c.arith, c.multiply, c.divide, c.compare, c.logic]
abbrev box (c : C) : Array Value := #[.int .i64 c.assign, .int .i64 c.branch, .int .i64 c.loop, .int .i64 c.call, .int .i64 c.output, .int .i64 c.release, .int .i64 c.load, .int .i64 c.index, .int .i64 c.arith, .int .i64 c.multiply, .int .i64 c.divide, .int .i64 c.compare, .int .i64 c.logic]
abbrev val (c : C) : Value := .agg #[.int .i64 c.assign, .int .i64 c.branch, .int .i64 c.loop, .int .i64 c.call, .int .i64 c.output, .int .i64 c.release, .int .i64 c.load, .int .i64 c.index, .int .i64 c.arith, .int .i64 c.multiply, .int .i64 c.divide, .int .i64 c.compare, .int .i64 c.logic]
/-- within the range -/
def ok (c : C) : Bool := c.list.all fun x => decide (0 ≤ x) && decide (x ≤ 100)
def code (c : C) : Int := if c.ok then 0 else 3
/-- the numbers are ints -/
def Wf (c : C) : Prop := ∀ x ∈ c.list, inI x
theorem len (c : C) : c.list.length = 13 := rfl
theorem box_at (c : C) {i : Nat} (h : i < 13) : c.box[i]? = some (.int .i64 (c.list.getD i 0)) := by
  match i, h with
  | 0, _ => rfl
  | 1, _ => rfl
  | 2, _ => rfl
  | 3, _ => rfl
  | 4, _ => rfl
  | 5, _ => rfl
  | 6, _ => rfl
  | 7, _ => rfl
  | 8, _ => rfl
  | 9, _ => rfl
  | 10, _ => rfl
  | 11, _ => rfl
  | 12, _ => rfl
/-- the cost of a node with an operator -/
def opC (c : C) (o : Int) : Int :=
  if o = 3 then c.load else if o = 5 then c.index else if o = 6 then c.arith else if o = 8 then c.arith else if o = 9 then c.arith else if o = 21 then c.arith else if o = 22 then c.arith
  else if o = 10 then c.multiply else if o = 11 then c.divide else if o = 12 then c.divide
  else if o = 13 then c.compare else if o = 14 then c.compare else if o = 15 then c.compare else if o = 16 then c.compare else if o = 17 then c.compare else if o = 18 then c.compare
  else if o = 7 then c.logic else if o = 19 then c.logic else if o = 20 then c.logic else if o = 23 then c.logic else 0
theorem ok_get {c : C} (h : c.ok = true) {x : Int} (hx : x ∈ c.list) : 0 ≤ x ∧ x ≤ 100 := by
  have := List.all_eq_true.1 h x hx
  simpa using this
theorem opC_bd {c : C} (h : c.ok = true) (o : Int) : 0 ≤ c.opC o ∧ c.opC o ≤ 100 := by
  have h1 := ok_get h (x := c.load) (by simp [list])
  have h2 := ok_get h (x := c.index) (by simp [list])
  have h3 := ok_get h (x := c.arith) (by simp [list])
  have h4 := ok_get h (x := c.multiply) (by simp [list])
  have h5 := ok_get h (x := c.divide) (by simp [list])
  have h6 := ok_get h (x := c.compare) (by simp [list])
  have h7 := ok_get h (x := c.logic) (by simp [list])
  unfold opC
  (repeat' split) <;> first | assumption | omega
theorem sum_bd {c : C} (h : c.ok = true) (e : E) : 0 ≤ e.sum c.opC ∧ e.sum c.opC ≤ 100 * (e.nodes : Int) := by
  induction e using E.ind with
  | h e ih =>
    have key : ∀ l : List E, (∀ k ∈ l, 0 ≤ k.sum c.opC ∧ k.sum c.opC ≤ 100 * (k.nodes : Int)) → 0 ≤ E.sumL c.opC l ∧ E.sumL c.opC l ≤ 100 * (E.nodesL l : Int) := by
      intro l
      induction l with
      | nil => intro _; simp [E.sumL, E.nodesL]
      | cons a l ihl =>
        intro hh
        have h1 := hh a (by simp)
        have h2 := ihl (fun k hk => hh k (by simp [hk]))
        simp only [E.sumL, E.nodesL]
        omega
    have h1 := key e.ks ih
    have h2 := opC_bd h e.op
    rw [E.sum_eq, E.nodes_eq]
    omega
theorem sumL_bd {c : C} (h : c.ok = true) (l : List E) : 0 ≤ E.sumL c.opC l ∧ E.sumL c.opC l ≤ 100 * (E.nodesL l : Int) := by
  induction l with
  | nil => simp [E.sumL, E.nodesL]
  | cons a l ihl =>
    have h1 := sum_bd h a
    simp only [E.sumL, E.nodesL]
    omega
end C

/-- the array of the entries' places -/
abbrev ents (b : Nat) : Value := .agg #[.pointer (some ⟨b, 0, none⟩), .pointer (some ⟨b, 1, none⟩), .pointer (some ⟨b, 2, none⟩), .pointer (some ⟨b, 3, none⟩), .pointer (some ⟨b, 4, none⟩), .pointer (some ⟨b, 5, none⟩), .pointer (some ⟨b, 6, none⟩), .pointer (some ⟨b, 7, none⟩), .pointer (some ⟨b, 8, none⟩), .pointer (some ⟨b, 9, none⟩), .pointer (some ⟨b, 10, none⟩), .pointer (some ⟨b, 11, none⟩), .pointer (some ⟨b, 12, none⟩)]
set_option maxRecDepth 100000 in
set_option maxHeartbeats 1000000 in
theorem entries_any (b : Nat) (w : World) : Calls Tryz.prog 20 #[.pointer (some ⟨b, 0, none⟩)] w fun r w' => r = .returned (ents b) ∧ Below w.heap.size w w' := by
  go_enter Tryz.func20, Tryz.ntmps20
  go_wp2_with fail
  go_region
  go_wp2_with fail
  exact bodyPost_ret (v := ents b) (by simp [results, Tryz.results20, go_sem]) rfl ⟨rfl, (al1 _ _).drew⟩
theorem ents_0 (b : Nat) (W : World) : (Instr.index 49 (ents b) (.int .i64 0)).run Tryz.prog W = .ok (.pointer (some ⟨b, 0, none⟩)) W := by kernel_rfl
theorem ents_1 (b : Nat) (W : World) : (Instr.index 49 (ents b) (.int .i64 1)).run Tryz.prog W = .ok (.pointer (some ⟨b, 1, none⟩)) W := by kernel_rfl
theorem ents_2 (b : Nat) (W : World) : (Instr.index 49 (ents b) (.int .i64 2)).run Tryz.prog W = .ok (.pointer (some ⟨b, 2, none⟩)) W := by kernel_rfl
theorem ents_3 (b : Nat) (W : World) : (Instr.index 49 (ents b) (.int .i64 3)).run Tryz.prog W = .ok (.pointer (some ⟨b, 3, none⟩)) W := by kernel_rfl
theorem ents_4 (b : Nat) (W : World) : (Instr.index 49 (ents b) (.int .i64 4)).run Tryz.prog W = .ok (.pointer (some ⟨b, 4, none⟩)) W := by kernel_rfl
theorem ents_5 (b : Nat) (W : World) : (Instr.index 49 (ents b) (.int .i64 5)).run Tryz.prog W = .ok (.pointer (some ⟨b, 5, none⟩)) W := by kernel_rfl
theorem ents_6 (b : Nat) (W : World) : (Instr.index 49 (ents b) (.int .i64 6)).run Tryz.prog W = .ok (.pointer (some ⟨b, 6, none⟩)) W := by kernel_rfl
theorem ents_7 (b : Nat) (W : World) : (Instr.index 49 (ents b) (.int .i64 7)).run Tryz.prog W = .ok (.pointer (some ⟨b, 7, none⟩)) W := by kernel_rfl
theorem ents_8 (b : Nat) (W : World) : (Instr.index 49 (ents b) (.int .i64 8)).run Tryz.prog W = .ok (.pointer (some ⟨b, 8, none⟩)) W := by kernel_rfl
theorem ents_9 (b : Nat) (W : World) : (Instr.index 49 (ents b) (.int .i64 9)).run Tryz.prog W = .ok (.pointer (some ⟨b, 9, none⟩)) W := by kernel_rfl
theorem ents_10 (b : Nat) (W : World) : (Instr.index 49 (ents b) (.int .i64 10)).run Tryz.prog W = .ok (.pointer (some ⟨b, 10, none⟩)) W := by kernel_rfl
theorem ents_11 (b : Nat) (W : World) : (Instr.index 49 (ents b) (.int .i64 11)).run Tryz.prog W = .ok (.pointer (some ⟨b, 11, none⟩)) W := by kernel_rfl
theorem ents_12 (b : Nat) (W : World) : (Instr.index 49 (ents b) (.int .i64 12)).run Tryz.prog W = .ok (.pointer (some ⟨b, 12, none⟩)) W := by kernel_rfl
theorem ents_at (b : Nat) {i : Nat} (h : i < 13) (W : World) : (Instr.index 49 (ents b) (.int .i64 (i : Int))).run Tryz.prog W = .ok (.pointer (some ⟨b, i, none⟩)) W :=
  match i, h with
  | 0, _ => ents_0 b W
  | 1, _ => ents_1 b W
  | 2, _ => ents_2 b W
  | 3, _ => ents_3 b W
  | 4, _ => ents_4 b W
  | 5, _ => ents_5 b W
  | 6, _ => ents_6 b W
  | 7, _ => ents_7 b W
  | 8, _ => ents_8 b W
  | 9, _ => ents_9 b W
  | 10, _ => ents_10 b W
  | 11, _ => ents_11 b W
  | 12, _ => ents_12 b W

set_option maxRecDepth 100000 in
set_option maxHeartbeats 1000000 in
theorem check_any (c : C) (w : World) : Calls Tryz.prog 19 #[c.val] w fun r w' => r = .returned (.int .i64 c.code) ∧ Below w.heap.size w w' := by
  go_enter Tryz.func19, Tryz.ntmps19
  go_wp2_with fail
  refine (entries_any w.heap.size _).mono ?_
  rintro r w1 ⟨rfl, b1⟩
  have hb : Blk w1 w.heap.size c.box := (Blk.new_ w _ _).below b1 (by simp)
  have b2 := bTrans (al1 w _) b1
  clear b1
  go_wp2_with fail
  go_loop [6] (fun iv => ∃ i : Nat, i ≤ 13 ∧ iv = .int .i64 i ∧ Hid (∀ j, j < i → 0 ≤ c.list.getD j 0 ∧ c.list.getD j 0 ≤ 100)) (fun iv => 13 - (intOf iv).toNat)
  case atStart => exact ⟨0, Nat.zero_le _, rfl, Lib.hid (fun j hj => absurd hj (Nat.not_lt_zero _))⟩
  case round =>
    obtain ⟨i, hi, rfl, hok⟩ := hrel
    by_cases hlt : i < 13
    · have hltI : (i : Int) < 13 := by omega
      have hidx := ents_at w.heap.size hlt
      have hc := hb.c i (C.box_at c hlt)
      obtain ⟨x, hx⟩ : ∃ x, Hid (c.list.getD i 0 = x) := ⟨_, Lib.hid rfl⟩
      rw [hx.out] at hc
      have hmem : x ∈ c.list := by
        rw [← hx.out, List.getD_eq_getElem?_getD, List.getElem?_eq_getElem (by rw [C.len]; exact hlt)]
        exact List.getElem_mem _
      have HBAD : Hid (x < 0 ∨ 100 < x → c.code = 3) := Lib.hid (fun h => by
        unfold C.code
        rw [if_neg]
        intro hk
        have := C.ok_get hk hmem
        omega)
      clear hmem
      by_cases h1 : x < 0
      · have HR := Lib.hid (HBAD.out (.inl h1))
        go_wp2_with fail
        go_ret
        exact ⟨ret_int HR.out.symm, b2⟩
      · by_cases h2 : 100 < x
        · have HR := Lib.hid (HBAD.out (.inr h2))
          go_wp2_with fail
          go_ret
          exact ⟨ret_int HR.out.symm, b2⟩
        · have HN : Hid (∀ j, j < i + 1 → 0 ≤ c.list.getD j 0 ∧ c.list.getD j 0 ≤ 100) := Lib.hid (fun j hj => by
            by_cases e : j = i
            · subst e; rw [hx.out]; omega
            · exact hok.out j (by omega))
          clear HBAD hok
          go_wp2_with fail
          go_round
          case rel => exact ⟨i + 1, by omega, by go_num, HN⟩
          case measure => simp [intOf]; omega
    · obtain rfl : i = 13 := by omega
      have HR : Hid (c.code = 0) := Lib.hid (by
        unfold C.code C.ok
        rw [if_pos]
        rw [List.all_eq_true]
        intro x hx
        obtain ⟨j, hj, rfl⟩ := List.mem_iff_getElem.1 hx
        have := hok.out j hj
        rw [List.getD_eq_getElem?_getD, List.getElem?_eq_getElem hj] at this
        simpa using this)
      go_wp2_with fail
      go_ret
      exact ⟨ret_int HR.out.symm, b2⟩

set_option maxRecDepth 100000 in
set_option maxHeartbeats 1000000 in
theorem default_any (w : World) : Calls Tryz.prog 15 #[] w fun r w' => r = .returned (C.val ⟨1, 1, 1, 2, 1, 1, 0, 1, 1, 3, 8, 1, 1⟩) ∧ Below w.heap.size w w' := by
  go_enter Tryz.func15, Tryz.ntmps15
  go_wp2_with fail
  exact bodyPost_ret (v := C.val ⟨1, 1, 1, 2, 1, 1, 0, 1, 1, 3, 8, 1, 1⟩) (by simp [results, Tryz.results15, go_sem]) rfl ⟨rfl, al1 _ _⟩

set_option maxRecDepth 100000 in
set_option maxHeartbeats 1000000 in
theorem opCost_any (c : C) (o : Int) (w : World) : Calls Tryz.prog 55 #[c.val, .int .i64 o] w fun r w' => r = .returned (.int .i64 (c.opC o)) ∧ Below w.heap.size w w' := by
  obtain ⟨z, hz⟩ : ∃ z, Hid (z = c.opC o) := ⟨_, Lib.hid rfl⟩
  rw [← hz.out]
  go_enter Tryz.func55, Tryz.ntmps55
  go_wp2_with fail
  all_goals
    go_ret
    refine ⟨ret_int ?_, al1 _ _⟩
    rw [hz.out]
    clear hz
    unfold C.opC
    simp_all
end Go.Proofs.YtmemkcaikajnnaaGreatDoor
