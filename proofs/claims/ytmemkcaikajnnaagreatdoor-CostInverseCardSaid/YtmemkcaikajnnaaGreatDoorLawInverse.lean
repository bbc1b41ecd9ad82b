/- Walk: the law CostInverse. -/
import Derived.Test.YtmemkcaikajnnaaGreatDoorLawTexts
import Derived.Test.YtmemkcaikajnnaaGreatDoorV0
import Derived.Test.YtmemkcaikajnnaaGreatDoorV1
namespace Go.Proofs.YtmemkcaikajnnaaGreatDoor
open Go.RowKit Go.Sort
set_option linter.unusedVariables false

abbrev trn (us : Nat → Nat) : Array Value := #[.int .u8 (us 0 : Int), .int .u8 (us 1 : Int), .int .u8 (us 2 : Int), .int .u8 (us 3 : Int), .int .u8 (us 4 : Int), .int .u8 (us 5 : Int), .int .u8 (us 6 : Int), .int .u8 (us 7 : Int), .int .u8 (us 8 : Int), .int .u8 (us 9 : Int), .int .u8 (us 10 : Int), .int .u8 (us 11 : Int), .int .u8 (us 12 : Int)]
theorem trn_0 (us : Nat → Nat) (W : World) : (Instr.index 31 (.agg #[.int .u8 (us 0 : Int), .int .u8 (us 1 : Int), .int .u8 (us 2 : Int), .int .u8 (us 3 : Int), .int .u8 (us 4 : Int), .int .u8 (us 5 : Int), .int .u8 (us 6 : Int), .int .u8 (us 7 : Int), .int .u8 (us 8 : Int), .int .u8 (us 9 : Int), .int .u8 (us 10 : Int), .int .u8 (us 11 : Int), .int .u8 (us 12 : Int)]) (.int .i64 0)).run Tryz.prog W = .ok (.int .u8 (us 0 : Int)) W := by kernel_rfl
theorem trn_1 (us : Nat → Nat) (W : World) : (Instr.index 31 (.agg #[.int .u8 (us 0 : Int), .int .u8 (us 1 : Int), .int .u8 (us 2 : Int), .int .u8 (us 3 : Int), .int .u8 (us 4 : Int), .int .u8 (us 5 : Int), .int .u8 (us 6 : Int), .int .u8 (us 7 : Int), .int .u8 (us 8 : Int), .int .u8 (us 9 : Int), .int .u8 (us 10 : Int), .int .u8 (us 11 : Int), .int .u8 (us 12 : Int)]) (.int .i64 1)).run Tryz.prog W = .ok (.int .u8 (us 1 : Int)) W := by kernel_rfl
theorem trn_2 (us : Nat → Nat) (W : World) : (Instr.index 31 (.agg #[.int .u8 (us 0 : Int), .int .u8 (us 1 : Int), .int .u8 (us 2 : Int), .int .u8 (us 3 : Int), .int .u8 (us 4 : Int), .int .u8 (us 5 : Int), .int .u8 (us 6 : Int), .int .u8 (us 7 : Int), .int .u8 (us 8 : Int), .int .u8 (us 9 : Int), .int .u8 (us 10 : Int), .int .u8 (us 11 : Int), .int .u8 (us 12 : Int)]) (.int .i64 2)).run Tryz.prog W = .ok (.int .u8 (us 2 : Int)) W := by kernel_rfl
theorem trn_3 (us : Nat → Nat) (W : World) : (Instr.index 31 (.agg #[.int .u8 (us 0 : Int), .int .u8 (us 1 : Int), .int .u8 (us 2 : Int), .int .u8 (us 3 : Int), .int .u8 (us 4 : Int), .int .u8 (us 5 : Int), .int .u8 (us 6 : Int), .int .u8 (us 7 : Int), .int .u8 (us 8 : Int), .int .u8 (us 9 : Int), .int .u8 (us 10 : Int), .int .u8 (us 11 : Int), .int .u8 (us 12 : Int)]) (.int .i64 3)).run Tryz.prog W = .ok (.int .u8 (us 3 : Int)) W := by kernel_rfl
theorem trn_4 (us : Nat → Nat) (W : World) : (Instr.index 31 (.agg #[.int .u8 (us 0 : Int), .int .u8 (us 1 : Int), .int .u8 (us 2 : Int), .int .u8 (us 3 : Int), .int .u8 (us 4 : Int), .int .u8 (us 5 : Int), .int .u8 (us 6 : Int), .int .u8 (us 7 : Int), .int .u8 (us 8 : Int), .int .u8 (us 9 : Int), .int .u8 (us 10 : Int), .int .u8 (us 11 : Int), .int .u8 (us 12 : Int)]) (.int .i64 4)).run Tryz.prog W = .ok (.int .u8 (us 4 : Int)) W := by kernel_rfl
theorem trn_5 (us : Nat → Nat) (W : World) : (Instr.index 31 (.agg #[.int .u8 (us 0 : Int), .int .u8 (us 1 : Int), .int .u8 (us 2 : Int), .int .u8 (us 3 : Int), .int .u8 (us 4 : Int), .int .u8 (us 5 : Int), .int .u8 (us 6 : Int), .int .u8 (us 7 : Int), .int .u8 (us 8 : Int), .int .u8 (us 9 : Int), .int .u8 (us 10 : Int), .int .u8 (us 11 : Int), .int .u8 (us 12 : Int)]) (.int .i64 5)).run Tryz.prog W = .ok (.int .u8 (us 5 : Int)) W := by kernel_rfl
theorem trn_6 (us : Nat → Nat) (W : World) : (Instr.index 31 (.agg #[.int .u8 (us 0 : Int), .int .u8 (us 1 : Int), .int .u8 (us 2 : Int), .int .u8 (us 3 : Int), .int .u8 (us 4 : Int), .int .u8 (us 5 : Int), .int .u8 (us 6 : Int), .int .u8 (us 7 : Int), .int .u8 (us 8 : Int), .int .u8 (us 9 : Int), .int .u8 (us 10 : Int), .int .u8 (us 11 : Int), .int .u8 (us 12 : Int)]) (.int .i64 6)).run Tryz.prog W = .ok (.int .u8 (us 6 : Int)) W := by kernel_rfl
theorem trn_7 (us : Nat → Nat) (W : World) : (Instr.index 31 (.agg #[.int .u8 (us 0 : Int), .int .u8 (us 1 : Int), .int .u8 (us 2 : Int), .int .u8 (us 3 : Int), .int .u8 (us 4 : Int), .int .u8 (us 5 : Int), .int .u8 (us 6 : Int), .int .u8 (us 7 : Int), .int .u8 (us 8 : Int), .int .u8 (us 9 : Int), .int .u8 (us 10 : Int), .int .u8 (us 11 : Int), .int .u8 (us 12 : Int)]) (.int .i64 7)).run Tryz.prog W = .ok (.int .u8 (us 7 : Int)) W := by kernel_rfl
theorem trn_8 (us : Nat → Nat) (W : World) : (Instr.index 31 (.agg #[.int .u8 (us 0 : Int), .int .u8 (us 1 : Int), .int .u8 (us 2 : Int), .int .u8 (us 3 : Int), .int .u8 (us 4 : Int), .int .u8 (us 5 : Int), .int .u8 (us 6 : Int), .int .u8 (us 7 : Int), .int .u8 (us 8 : Int), .int .u8 (us 9 : Int), .int .u8 (us 10 : Int), .int .u8 (us 11 : Int), .int .u8 (us 12 : Int)]) (.int .i64 8)).run Tryz.prog W = .ok (.int .u8 (us 8 : Int)) W := by kernel_rfl
theorem trn_9 (us : Nat → Nat) (W : World) : (Instr.index 31 (.agg #[.int .u8 (us 0 : Int), .int .u8 (us 1 : Int), .int .u8 (us 2 : Int), .int .u8 (us 3 : Int), .int .u8 (us 4 : Int), .int .u8 (us 5 : Int), .int .u8 (us 6 : Int), .int .u8 (us 7 : Int), .int .u8 (us 8 : Int), .int .u8 (us 9 : Int), .int .u8 (us 10 : Int), .int .u8 (us 11 : Int), .int .u8 (us 12 : Int)]) (.int .i64 9)).run Tryz.prog W = .ok (.int .u8 (us 9 : Int)) W := by kernel_rfl
theorem trn_10 (us : Nat → Nat) (W : World) : (Instr.index 31 (.agg #[.int .u8 (us 0 : Int), .int .u8 (us 1 : Int), .int .u8 (us 2 : Int), .int .u8 (us 3 : Int), .int .u8 (us 4 : Int), .int .u8 (us 5 : Int), .int .u8 (us 6 : Int), .int .u8 (us 7 : Int), .int .u8 (us 8 : Int), .int .u8 (us 9 : Int), .int .u8 (us 10 : Int), .int .u8 (us 11 : Int), .int .u8 (us 12 : Int)]) (.int .i64 10)).run Tryz.prog W = .ok (.int .u8 (us 10 : Int)) W := by kernel_rfl
theorem trn_11 (us : Nat → Nat) (W : World) : (Instr.index 31 (.agg #[.int .u8 (us 0 : Int), .int .u8 (us 1 : Int), .int .u8 (us 2 : Int), .int .u8 (us 3 : Int), .int .u8 (us 4 : Int), .int .u8 (us 5 : Int), .int .u8 (us 6 : Int), .int .u8 (us 7 : Int), .int .u8 (us 8 : Int), .int .u8 (us 9 : Int), .int .u8 (us 10 : Int), .int .u8 (us 11 : Int), .int .u8 (us 12 : Int)]) (.int .i64 11)).run Tryz.prog W = .ok (.int .u8 (us 11 : Int)) W := by kernel_rfl
theorem trn_12 (us : Nat → Nat) (W : World) : (Instr.index 31 (.agg #[.int .u8 (us 0 : Int), .int .u8 (us 1 : Int), .int .u8 (us 2 : Int), .int .u8 (us 3 : Int), .int .u8 (us 4 : Int), .int .u8 (us 5 : Int), .int .u8 (us 6 : Int), .int .u8 (us 7 : Int), .int .u8 (us 8 : Int), .int .u8 (us 9 : Int), .int .u8 (us 10 : Int), .int .u8 (us 11 : Int), .int .u8 (us 12 : Int)]) (.int .i64 12)).run Tryz.prog W = .ok (.int .u8 (us 12 : Int)) W := by kernel_rfl
theorem trn_at (us : Nat → Nat) {i : Nat} (h : i < 13) (W : World) : (Instr.index 31 (.agg #[.int .u8 (us 0 : Int), .int .u8 (us 1 : Int), .int .u8 (us 2 : Int), .int .u8 (us 3 : Int), .int .u8 (us 4 : Int), .int .u8 (us 5 : Int), .int .u8 (us 6 : Int), .int .u8 (us 7 : Int), .int .u8 (us 8 : Int), .int .u8 (us 9 : Int), .int .u8 (us 10 : Int), .int .u8 (us 11 : Int), .int .u8 (us 12 : Int)]) (.int .i64 (i : Int))).run Tryz.prog W = .ok (.int .u8 (us i : Int)) W :=
  match i, h with
  | 0, _ => trn_0 us W
  | 1, _ => trn_1 us W
  | 2, _ => trn_2 us W
  | 3, _ => trn_3 us W
  | 4, _ => trn_4 us W
  | 5, _ => trn_5 us W
  | 6, _ => trn_6 us W
  | 7, _ => trn_7 us W
  | 8, _ => trn_8 us W
  | 9, _ => trn_9 us W
  | 10, _ => trn_10 us W
  | 11, _ => trn_11 us W
  | 12, _ => trn_12 us W
  | n + 13, h => absurd h (by omega)
/-- the law's world -/
structure InW (w wr : World) (c : C) (us : Nat → Nat) : Prop where
  bc : Blk wr w.heap.size c.box
  bt : Blk wr (w.heap.size + 1) (trn us)
  bel : Below w.heap.size w wr
theorem InW.below {w wr w' : World} {c : C} {us : Nat → Nat} (h : InW w wr c us) (hb : Below wr.heap.size wr w') : InW w w' c us := ⟨h.bc.below hb h.bc.lt, h.bt.below hb h.bt.lt, bTrans h.bel hb⟩
theorem InW.start (w : World) (c : C) (us : Nat → Nat) (T T' : TypeId) : InW w ((w.alloc (.cells c.box T)).alloc (.cells (trn us) T')) c us :=
  ⟨(Blk.new_ _ _ _).alloc _, Blk.new' (by simp), (al1 w _).alloc (by simp) _⟩
theorem t13 {w : World} {b : Nat} {us : Nat → Nat} (h : Blk w b (trn us)) : w.cell? ⟨b, 0, none⟩ = some (.int .u8 (us 0 : Int)) ∧ w.cell? ⟨b, 1, none⟩ = some (.int .u8 (us 1 : Int)) ∧ w.cell? ⟨b, 2, none⟩ = some (.int .u8 (us 2 : Int)) ∧ w.cell? ⟨b, 3, none⟩ = some (.int .u8 (us 3 : Int)) ∧ w.cell? ⟨b, 4, none⟩ = some (.int .u8 (us 4 : Int)) ∧ w.cell? ⟨b, 5, none⟩ = some (.int .u8 (us 5 : Int)) ∧ w.cell? ⟨b, 6, none⟩ = some (.int .u8 (us 6 : Int)) ∧ w.cell? ⟨b, 7, none⟩ = some (.int .u8 (us 7 : Int)) ∧ w.cell? ⟨b, 8, none⟩ = some (.int .u8 (us 8 : Int)) ∧ w.cell? ⟨b, 9, none⟩ = some (.int .u8 (us 9 : Int)) ∧ w.cell? ⟨b, 10, none⟩ = some (.int .u8 (us 10 : Int)) ∧ w.cell? ⟨b, 11, none⟩ = some (.int .u8 (us 11 : Int)) ∧ w.cell? ⟨b, 12, none⟩ = some (.int .u8 (us 12 : Int)) := ⟨h.c 0 rfl, h.c 1 rfl, h.c 2 rfl, h.c 3 rfl, h.c 4 rfl, h.c 5 rfl, h.c 6 rfl, h.c 7 rfl, h.c 8 rfl, h.c 9 rfl, h.c 10 rfl, h.c 11 rfl, h.c 12 rfl⟩
theorem set_same {vs : Array Value} {k : Nat} {v : Value} (h : vs[k]? = some v) : vs.setIfInBounds k v = vs := by
  apply Array.ext_getElem?
  intro i
  rw [Array.getElem?_setIfInBounds]
  by_cases e : k = i
  · subst e; rw [if_pos rfl, h, if_pos (Array.getElem?_eq_some_iff.1 h).1]
  · rw [if_neg e]
theorem Blk.same {w : World} {b k : Nat} {vs : Array Value} {v : Value} (h : Blk w b vs) (hv : vs[k]? = some v) : Blk (w.setCell ⟨b, k, none⟩ v) b vs := by
  have h2 := h.put k v
  rwa [set_same hv] at h2
theorem putC {w : World} {b : Nat} {c : C} (h : Blk w b c.box) : Blk (((((((((((((w.setCell ⟨b, 0, none⟩ (.int .i64 c.assign)).setCell ⟨b, 1, none⟩ (.int .i64 c.branch)).setCell ⟨b, 2, none⟩ (.int .i64 c.loop)).setCell ⟨b, 3, none⟩ (.int .i64 c.call)).setCell ⟨b, 4, none⟩ (.int .i64 c.output)).setCell ⟨b, 5, none⟩ (.int .i64 c.release)).setCell ⟨b, 6, none⟩ (.int .i64 c.load)).setCell ⟨b, 7, none⟩ (.int .i64 c.index)).setCell ⟨b, 8, none⟩ (.int .i64 c.arith)).setCell ⟨b, 9, none⟩ (.int .i64 c.multiply)).setCell ⟨b, 10, none⟩ (.int .i64 c.divide)).setCell ⟨b, 11, none⟩ (.int .i64 c.compare)).setCell ⟨b, 12, none⟩ (.int .i64 c.logic)) b c.box := (Blk.same (Blk.same (Blk.same (Blk.same (Blk.same (Blk.same (Blk.same (Blk.same (Blk.same (Blk.same (Blk.same (Blk.same (Blk.same h (k := 0) rfl) (k := 1) rfl) (k := 2) rfl) (k := 3) rfl) (k := 4) rfl) (k := 5) rfl) (k := 6) rfl) (k := 7) rfl) (k := 8) rfl) (k := 9) rfl) (k := 10) rfl) (k := 11) rfl) (k := 12) rfl)
theorem farC {w : World} {a b : Nat} {vs : Array Value} {c : C} (h : Blk w a vs) (hne : a ≠ b) : Blk (((((((((((((w.setCell ⟨b, 0, none⟩ (.int .i64 c.assign)).setCell ⟨b, 1, none⟩ (.int .i64 c.branch)).setCell ⟨b, 2, none⟩ (.int .i64 c.loop)).setCell ⟨b, 3, none⟩ (.int .i64 c.call)).setCell ⟨b, 4, none⟩ (.int .i64 c.output)).setCell ⟨b, 5, none⟩ (.int .i64 c.release)).setCell ⟨b, 6, none⟩ (.int .i64 c.load)).setCell ⟨b, 7, none⟩ (.int .i64 c.index)).setCell ⟨b, 8, none⟩ (.int .i64 c.arith)).setCell ⟨b, 9, none⟩ (.int .i64 c.multiply)).setCell ⟨b, 10, none⟩ (.int .i64 c.divide)).setCell ⟨b, 11, none⟩ (.int .i64 c.compare)).setCell ⟨b, 12, none⟩ (.int .i64 c.logic)) a vs := (((((((((((((h.far (p := ⟨b, 0, none⟩) hne _).far (p := ⟨b, 1, none⟩) hne _).far (p := ⟨b, 2, none⟩) hne _).far (p := ⟨b, 3, none⟩) hne _).far (p := ⟨b, 4, none⟩) hne _).far (p := ⟨b, 5, none⟩) hne _).far (p := ⟨b, 6, none⟩) hne _).far (p := ⟨b, 7, none⟩) hne _).far (p := ⟨b, 8, none⟩) hne _).far (p := ⟨b, 9, none⟩) hne _).far (p := ⟨b, 10, none⟩) hne _).far (p := ⟨b, 11, none⟩) hne _).far (p := ⟨b, 12, none⟩) hne _)
theorem belowC {w0 w : World} {B b : Nat} {c : C} (h : Below B w0 w) (hB : B ≤ b) : Below B w0 (((((((((((((w.setCell ⟨b, 0, none⟩ (.int .i64 c.assign)).setCell ⟨b, 1, none⟩ (.int .i64 c.branch)).setCell ⟨b, 2, none⟩ (.int .i64 c.loop)).setCell ⟨b, 3, none⟩ (.int .i64 c.call)).setCell ⟨b, 4, none⟩ (.int .i64 c.output)).setCell ⟨b, 5, none⟩ (.int .i64 c.release)).setCell ⟨b, 6, none⟩ (.int .i64 c.load)).setCell ⟨b, 7, none⟩ (.int .i64 c.index)).setCell ⟨b, 8, none⟩ (.int .i64 c.arith)).setCell ⟨b, 9, none⟩ (.int .i64 c.multiply)).setCell ⟨b, 10, none⟩ (.int .i64 c.divide)).setCell ⟨b, 11, none⟩ (.int .i64 c.compare)).setCell ⟨b, 12, none⟩ (.int .i64 c.logic)) := (((((((((((((h.setCell (p := ⟨b, 0, none⟩) hB _).setCell (p := ⟨b, 1, none⟩) hB _).setCell (p := ⟨b, 2, none⟩) hB _).setCell (p := ⟨b, 3, none⟩) hB _).setCell (p := ⟨b, 4, none⟩) hB _).setCell (p := ⟨b, 5, none⟩) hB _).setCell (p := ⟨b, 6, none⟩) hB _).setCell (p := ⟨b, 7, none⟩) hB _).setCell (p := ⟨b, 8, none⟩) hB _).setCell (p := ⟨b, 9, none⟩) hB _).setCell (p := ⟨b, 10, none⟩) hB _).setCell (p := ⟨b, 11, none⟩) hB _).setCell (p := ⟨b, 12, none⟩) hB _)
/-- the world behind the order -/
structure InZ (w wr : World) (c : C) (b7 go : Nat) (ks : List Nat) : Prop where
  bc : Blk wr w.heap.size c.box
  d : Blk wr b7 c.box
  or_ : ∀ (j k : Nat), ks[j]? = some k → wr.cell? ⟨go, j, none⟩ = some (.int .i64 (k : Int))
  glt : go < wr.heap.size
  bel : Below w.heap.size w wr
theorem InZ.below {w wr w' : World} {c : C} {b7 go : Nat} {ks : List Nat} (h : InZ w wr c b7 go ks) (hb : Below wr.heap.size wr w') : InZ w w' c b7 go ks :=
  ⟨h.bc.below hb h.bc.lt, h.d.below hb h.d.lt, fun j k hk => (hb.cell (p := ⟨go, j, none⟩) h.glt).trans (h.or_ j k hk), Nat.lt_of_lt_of_le h.glt hb.size, bTrans h.bel hb⟩
/-- what Parse makes of a text that is read as the model -/
theorem parse_as {c : C} {s : ByteArray} (h : Kp.parseS (bs s) = (0, c.list)) (W : World) (hT : Tk W.heap.size W) : Calls Tryz.prog 8 #[.string s] W fun r w' => r = .returned (.tuple #[.agg c.box, .int .i64 0]) ∧ Below W.heap.size W w' := by
  refine (parse_any s W hT).mono ?_
  rintro r w' ⟨d, rfl, he, hb⟩
  rw [h] at he
  obtain rfl : d = c := C.of_list he
  exact ⟨by rw [h], hb⟩
namespace Kp
/-- an order of the first i entries -/
structure Pm (ks : List Nat) (i : Nat) : Prop where
  len : ks.length = i
  nd : ks.Nodup
  lt : ∀ k ∈ ks, k < i
  all : ∀ j, j < i → j ∈ ks
theorem Pm.zero : Pm [] 0 := ⟨rfl, List.nodup_nil, fun k h => (by simp at h), fun j h => absurd h (Nat.not_lt_zero _)⟩
theorem Pm.next {ks : List Nat} {i : Nat} (h : Pm ks i) (p : Nat) : Pm (ins ks p i) (i + 1) := by
  have hp := ins_perm ks p i
  refine ⟨by rw [ins_len, h.len], ?_, fun k hk => ?_, fun j hj => ?_⟩
  · rw [hp.nodup_iff, List.nodup_cons]
    exact ⟨fun hi => absurd (h.lt i hi) (Nat.lt_irrefl _), h.nd⟩
  · rw [hp.mem_iff] at hk
    rcases List.mem_cons.1 hk with rfl | hk
    · exact Nat.lt_succ_self _
    · exact Nat.lt_succ_of_lt (h.lt k hk)
  · rw [hp.mem_iff]
    by_cases e : j = i
    · subst e; exact List.mem_cons_self
    · exact List.mem_cons_of_mem _ (h.all j (by omega))
/-- what is printed of the first entries of an order -/
def pre2 (c : C) (ks : List Nat) (i : Nat) : List UInt8 := Lib.join ((ks.take i).map (pcs c)) [32, 32, 44, 32]
theorem pre2_next (c : C) {ks : List Nat} {i k : Nat} (h : ks[i]? = some k) : pre2 c ks (i + 1) = pre2 c ks i ++ ((if i = 0 then [] else [32, 32, 44, 32]) ++ pcs c k) := by
  unfold pre2
  have hi : i < ks.length := (List.getElem?_eq_some_iff.1 h).1
  rw [List.take_succ_eq_append_getElem hi, List.map_append, List.map_cons, List.map_nil, join_snoc]
  have hk : ks[i] = k := by rw [List.getElem?_eq_getElem hi] at h; injection h
  rw [hk]
  have e : ((ks.take i).map (pcs c) = []) ↔ i = 0 := by
    rw [List.map_eq_nil_iff, List.take_eq_nil_iff]
    constructor
    · rintro (h | h)
      · exact h
      · rw [h] at hi; exact absurd hi (Nat.not_lt_zero _)
    · exact .inl
  by_cases h0 : i = 0
  · rw [if_pos (e.2 h0), if_pos h0]
  · rw [if_neg (fun h => h0 (e.1 h)), if_neg h0]
theorem pre2_len {c : C} (hc : c.ok = true) {ks : List Nat} (hk : ∀ k ∈ ks, k < 13) : ∀ i, i ≤ ks.length → (pre2 c ks i).length ≤ 60 * i := by
  intro i
  induction i with
  | zero => intro _; exact Nat.le_refl _
  | succ i ih =>
    intro h
    have h1 := ih (by omega)
    have hi : ks[i]? = some (ks[i]'(by omega)) := List.getElem?_eq_getElem (by omega)
    obtain ⟨v, _, _, f⟩ := pcs_of hc (hk _ (List.getElem_mem (by omega : i < ks.length)))
    have h4 := f.ln
    have hs : (if i = 0 then ([] : List UInt8) else [32, 32, 44, 32]).length ≤ 4 := by split <;> simp
    rw [pre2_next c hi]
    simp only [List.length_append] at h4 ⊢
    omega
theorem pre2_all {c : C} (hc : c.ok = true) {ks : List Nat} (h : Pm ks 13) : parseS (pre2 c ks 13) = (0, c.list) := by
  have e : pre2 c ks 13 = tx [32, 32] [32] (ks.map (pcs c)) := by
    rw [← join_tx]
    unfold pre2
    rw [List.take_of_length_le (by rw [h.len]; exact Nat.le_refl _)]
    rfl
  rw [e]
  exact parse_tx hc (fun x hx => by simpa using hx) (fun x hx => by simpa using hx) (by decide) (by decide) h.lt h.nd h.all (by rw [h.len]; decide)
end Kp
set_option maxRecDepth 100000 in
set_option maxHeartbeats 8000000 in
theorem inverse_bad (c : C) (us : Nat → Nat) (w : World) (hT : Tk w.heap.size w) (hk : c.code = 3) : Calls Tryz.prog 4 #[c.val, .agg (trn us)] w fun r w' => r = .returned (.bool true) ∧ Below w.heap.size w w' := by
  have HP1 := Lib.hid (fun W : World => print_bad c W hk)
  have HP2 := Lib.hid (fun W => (by have h := rcheck_any c W; rw [hk] at h; exact h : Calls Tryz.prog 10 #[c.val] W fun r w' => r = .returned (.int .i64 3) ∧ Below W.heap.size W w'))
  clear hk
  have X := InW.start w c us 23 31
  go_enter Tryz.func4, Tryz.ntmps4
  go_upto_region 1 with (fail)
  revert X
  generalize (w.alloc (.cells #[.int .i64 c.assign, .int .i64 c.branch, .int .i64 c.loop, .int .i64 c.call, .int .i64 c.output, .int .i64 c.release, .int .i64 c.load, .int .i64 c.index, .int .i64 c.arith, .int .i64 c.multiply, .int .i64 c.divide, .int .i64 c.compare, .int .i64 c.logic] 23)).alloc (.cells #[.int .u8 (us 0 : Int), .int .u8 (us 1 : Int), .int .u8 (us 2 : Int), .int .u8 (us 3 : Int), .int .u8 (us 4 : Int), .int .u8 (us 5 : Int), .int .u8 (us 6 : Int), .int .u8 (us 7 : Int), .int .u8 (us 8 : Int), .int .u8 (us 9 : Int), .int .u8 (us 10 : Int), .int .u8 (us 11 : Int), .int .u8 (us 12 : Int)] 31) = w1
  intro X
  go_wp2_with fail
  refine (known_ok _ (hT.at X.bel).tb).mono ?_
  rintro r w2 ⟨rfl, b2⟩
  replace X := X.below b2
  clear b2
  obtain ⟨hc0, hc1, hc2, hc3, hc4, hc5, hc6, hc7, hc8, hc9, hc10, hc11, hc12⟩ := c13 X.bc
  go_wp2_with fail
  refine (HP1.out _).mono ?_
  rintro r w3 ⟨rfl, b2⟩
  replace X := X.below b2
  clear b2 hc0 hc1 hc2 hc3 hc4 hc5 hc6 hc7 hc8 hc9 hc10 hc11 hc12
  obtain ⟨hc0, hc1, hc2, hc3, hc4, hc5, hc6, hc7, hc8, hc9, hc10, hc11, hc12⟩ := c13 X.bc
  go_wp2_with fail
  refine (HP2.out _).mono ?_
  rintro r w4 ⟨rfl, b2⟩
  replace X := X.below b2
  have b3 := X.bel
  clear b2 hc0 hc1 hc2 hc3 hc4 hc5 hc6 hc7 hc8 hc9 hc10 hc11 hc12
  go_wp2_with fail
  go_ret
  exact ⟨rfl, b3⟩
set_option maxRecDepth 100000 in
set_option maxHeartbeats 8000000 in
theorem inverse_ok (c : C) (us : Nat → Nat) (hus : ∀ i, i < 13 → us i < 256) (w : World) (hT : Tk w.heap.size w) (hk : c.ok = true) : Calls Tryz.prog 4 #[c.val, .agg (trn us)] w fun r w' => r = .returned (.bool true) ∧ Below w.heap.size w w' := by
  have hcode : c.code = 0 := by unfold C.code; rw [if_pos hk]
  obtain ⟨P, hP⟩ : ∃ P, Hid (mkB (Kp.text c) = P) := ⟨_, Lib.hid rfl⟩
  have HP1 := Lib.hid (fun (W : World) (h : Tk W.heap.size W) => (by have h := print_ok c W h hk; rw [hP.out] at h; exact h : Calls Tryz.prog 6 #[c.val] W fun r w' => r = .returned (.tuple #[.string P, .int .i64 0]) ∧ Below W.heap.size W w'))
  have HP2 := Lib.hid (fun W => (by have h := rcheck_any c W; rw [hcode] at h; exact h : Calls Tryz.prog 10 #[c.val] W fun r w' => r = .returned (.int .i64 0) ∧ Below W.heap.size W w'))
  have HQ1 := Lib.hid (fun (W : World) (h : Tk W.heap.size W) => parse_as (s := P) (c := c) (by rw [← hP.out, bs_mk]; exact Kp.parse_text hk) W h)
  have HK := Lib.hid hk
  clear hk hcode hP
  have X := InW.start w c us 23 31
  go_enter Tryz.func4, Tryz.ntmps4
  go_upto_region 1 with (fail)
  revert X
  generalize (w.alloc (.cells #[.int .i64 c.assign, .int .i64 c.branch, .int .i64 c.loop, .int .i64 c.call, .int .i64 c.output, .int .i64 c.release, .int .i64 c.load, .int .i64 c.index, .int .i64 c.arith, .int .i64 c.multiply, .int .i64 c.divide, .int .i64 c.compare, .int .i64 c.logic] 23)).alloc (.cells #[.int .u8 (us 0 : Int), .int .u8 (us 1 : Int), .int .u8 (us 2 : Int), .int .u8 (us 3 : Int), .int .u8 (us 4 : Int), .int .u8 (us 5 : Int), .int .u8 (us 6 : Int), .int .u8 (us 7 : Int), .int .u8 (us 8 : Int), .int .u8 (us 9 : Int), .int .u8 (us 10 : Int), .int .u8 (us 11 : Int), .int .u8 (us 12 : Int)] 31) = w1
  intro X
  go_wp2_with fail
  refine (known_ok _ (hT.at X.bel).tb).mono ?_
  rintro r w2 ⟨rfl, b2⟩
  replace X := X.below b2
  clear b2
  obtain ⟨hc0, hc1, hc2, hc3, hc4, hc5, hc6, hc7, hc8, hc9, hc10, hc11, hc12⟩ := c13 X.bc
  go_wp2_with fail
  refine (HP1.out _ (hT.at X.bel)).mono ?_
  rintro r w3 ⟨rfl, b2⟩
  replace X := X.below b2
  clear b2 HP1 hc0 hc1 hc2 hc3 hc4 hc5 hc6 hc7 hc8 hc9 hc10 hc11 hc12
  obtain ⟨hc0, hc1, hc2, hc3, hc4, hc5, hc6, hc7, hc8, hc9, hc10, hc11, hc12⟩ := c13 X.bc
  go_wp2_with fail
  refine (HP2.out _).mono ?_
  rintro r w4 ⟨rfl, b2⟩
  replace X := X.below b2
  clear b2 HP2 hc0 hc1 hc2 hc3 hc4 hc5 hc6 hc7 hc8 hc9 hc10 hc11 hc12
  go_wp2_with fail
  refine (HQ1.out _ (hT.at X.bel)).mono ?_
  rintro r w5 ⟨rfl, b2⟩
  replace X := X.below b2
  have hne := X.bt.lt
  replace X := X.below (al1 w5 (.cells c.box 23))
  have D := Blk.new_ w5 c.box 23
  clear b2 HQ1
  go_upto_region 7 with (fail)
  obtain ⟨b7, hb7⟩ : ∃ b, Hid (w5.heap.size = b) := ⟨_, Lib.hid rfl⟩
  generalize w5.alloc (.cells #[.int .i64 c.assign, .int .i64 c.branch, .int .i64 c.loop, .int .i64 c.call, .int .i64 c.output, .int .i64 c.release, .int .i64 c.load, .int .i64 c.index, .int .i64 c.arith, .int .i64 c.multiply, .int .i64 c.divide, .int .i64 c.compare, .int .i64 c.logic] 23) = w6 at X D ⊢
  rw [hb7.out] at D hne ⊢
  clear hb7
  obtain ⟨hc0, hc1, hc2, hc3, hc4, hc5, hc6, hc7, hc8, hc9, hc10, hc11, hc12⟩ := c13 X.bc
  obtain ⟨hd0, hd1, hd2, hd3, hd4, hd5, hd6, hd7, hd8, hd9, hd10, hd11, hd12⟩ := c13 D
  go_upto_region 9 with (fail)
  clear hc0 hc1 hc2 hc3 hc4 hc5 hc6 hc7 hc8 hc9 hc10 hc11 hc12 hd0 hd1 hd2 hd3 hd4 hd5 hd6 hd7 hd8 hd9 hd10 hd11 hd12
  have Y := Ord.start w6 w6 (Below.refl _ _)
  go_upto_region 10 with (fail)
  revert Y
  generalize w6.alloc (.cells #[] 3) = w7
  intro Y
  obtain ⟨t0, t1, t2, t3, t4, t5, t6, t7, t8, t9, t10, t11, t12⟩ := t13 (X.below Y.bel).bt
  go_wp2_with fail
  clear t0 t1 t2 t3 t4 t5 t6 t7 t8 t9 t10 t11 t12
  go_loopw [9, 51] (fun sv iv wr => ∃ i : Nat, i ≤ 13 ∧ iv = .int .i64 i ∧ ∃ ks : List Nat, Hid (Kp.Pm ks i) ∧ Ord w6 wr sv ks) (fun _ iv _ => 13 - (intOf iv).toNat)
  case atStart => exact ⟨0, Nat.zero_le _, rfl, [], Lib.hid Kp.Pm.zero, Y⟩
  case round =>
    clear Y
    obtain ⟨i, hi, rfl, ks, hpm, Y⟩ := hrel
    by_cases hlt : i < 13
    · have hltI : (i : Int) < 13 := by omega
      have hidx := fun W => trn_at us hlt W
      have hn256 := hus i hlt
      obtain ⟨n, hn⟩ : ∃ n, Hid (us i = n) := ⟨_, Lib.hid rfl⟩
      rw [hn.out] at hn256
      simp only [hn.out] at hidx
      obtain ⟨p, hp⟩ : ∃ p, Hid (n % (i + 1) = p) := ⟨_, Lib.hid rfl⟩
      have hpi : p < i + 1 := by rw [← hp.out]; exact Nat.mod_lt _ (Nat.succ_pos _)
      have hL := hpm.out.len
      have hN := Lib.hid (hpm.out.next p)
      obtain ⟨g, cur, rfl, -⟩ := Y.ex
      have hi2 := ins_any Y p i (by omega) (by omega)
      rw [hL] at hi2 ⊢
      have HI := Lib.hid hi2
      have f1 : ((n : Int)).tmod ((i : Int) + 1) = (p : Int) := by rw [← hp.out]; exact (Int.ofNat_tmod n (i + 1)).symm
      have f1' : (n : Int) % ((i : Int) + 1) = (p : Int) := by rw [← hp.out]; rfl
      have e1 : IntKind.i64.wrap (n : Int) = (n : Int) := IntWalk.i64_in _ (by omega)
      have e2 : IntKind.i64.wrap ((i : Int) + 1) = (i : Int) + 1 := IntWalk.i64_in _ (by omega)
      have e3 : IntKind.i64.wrap (p : Int) = (p : Int) := IntWalk.i64_in _ (by omega)
      have hz : ((i : Int) + 1 == 0) = false := by rw [beq_eq_false_iff_ne]; omega
      have hz1 : (i : Int) + 1 ≠ 0 := by omega
      clear hi2 Y hn hp hL hpm hn256
      go_wp2_with fail
      refine HI.out.mono ?_
      rintro r w8 ⟨v', rfl, Y8⟩
      clear f1 f1' e1 e2 e3 hz hz1 HI hidx hltI
      go_wp2_with fail
      go_roundw
      case rel => exact ⟨i + 1, by omega, by go_num, _, hN, Y8⟩
      case measure => simp [intOf]; omega
    · obtain rfl : i = 13 := by omega
      have hL := hpm.out.len
      obtain ⟨go, cur, rfl, hgo, hh, h1, h2, h3⟩ := Y.ex
      have Z : InZ w wr c b7 go ks := ⟨(X.below Y.bel).bc, D.below Y.bel D.lt, fun j k hjk => by rw [cell_of_row wr go j _ _ _ hh]; exact h3 j k hjk, (Array.getElem?_eq_some_iff.1 hh).1, (X.below Y.bel).bel⟩
      rw [hL]
      clear X D Y hgo hh h1 h2 h3
      obtain ⟨cp, hcp⟩ : ∃ cp, Hid (cur.size = cp) := ⟨_, Lib.hid rfl⟩
      rw [hcp.out]
      clear hcp
      have L1 := Lib.hid (show ∀ w : World, Calls Tryz.prog 13 #[c.val] w (fun r w' => ∃ (A : Option Addr) (cp : Nat), r = .returned (.slice A 13 cp) ∧ Zs w' w'.heap.size A c.list ∧ Below w.heap.size w w') from fun w => rlist_any c w)
      go_upto_region 15 with (fail)
      replace Z := Z.below (show Below wr.heap.size wr wr.drew from (Below.refl _ _).drew)
      go_region_held3 (fun w' => w'.cell? ⟨w.heap.size, 0, none⟩ = some (.int .i64 c.assign) ∧ w'.cell? ⟨w.heap.size, 1, none⟩ = some (.int .i64 c.branch) ∧ w'.cell? ⟨w.heap.size, 2, none⟩ = some (.int .i64 c.loop) ∧ w'.cell? ⟨w.heap.size, 3, none⟩ = some (.int .i64 c.call) ∧ w'.cell? ⟨w.heap.size, 4, none⟩ = some (.int .i64 c.output) ∧ w'.cell? ⟨w.heap.size, 5, none⟩ = some (.int .i64 c.release) ∧ w'.cell? ⟨w.heap.size, 6, none⟩ = some (.int .i64 c.load) ∧ w'.cell? ⟨w.heap.size, 7, none⟩ = some (.int .i64 c.index) ∧ w'.cell? ⟨w.heap.size, 8, none⟩ = some (.int .i64 c.arith) ∧ w'.cell? ⟨w.heap.size, 9, none⟩ = some (.int .i64 c.multiply) ∧ w'.cell? ⟨w.heap.size, 10, none⟩ = some (.int .i64 c.divide) ∧ w'.cell? ⟨w.heap.size, 11, none⟩ = some (.int .i64 c.compare) ∧ w'.cell? ⟨w.heap.size, 12, none⟩ = some (.int .i64 c.logic))
        (first | exact c13 Z.bc)
        (first
          | (go_at_call 12; ((with_reducible refine (rnames_any _).mono ?_); rintro r w8 ⟨⟨g, rfl, hN, hg⟩, b2⟩); replace Z := Z.below b2)
          | (go_at_call 13; refine (L1.out _).mono ?_; rintro r w9 ⟨A, cpl, rfl, hZ, b3⟩; replace Z := Z.below b3; replace hN := hN.below b3 hN.lt))
      obtain ⟨ab, aoff, rfl, hab, hcells⟩ := hZ.row.cells (by rw [List.length_map, C.len]; decide)
      have R0 : RpI w9 w9 g ab aoff c := ⟨hN, Below.refl _ _, fun i hi => hcells i _ (by rw [List.getElem?_map, List.getElem?_eq_getElem (by rw [C.len]; exact hi), List.getD_eq_getElem?_getD, List.getElem?_eq_getElem (by rw [C.len]; exact hi)]; rfl), hab⟩
      clear b2 b3 hN hg hZ hcells hab L1
      go_wp2_with fail
      go_loopw [14, 71] (fun sv iv wr => ∃ i : Nat, i ≤ 13 ∧ iv = .int .i64 i ∧ sv = .string (mkB (Kp.pre2 c ks i)) ∧ RpI w9 wr g ab aoff c) (fun _ iv _ => 13 - (intOf iv).toNat)
      case atStart => exact ⟨0, Nat.zero_le _, rfl, rfl, R0⟩
      case round =>
        clear R0
        obtain ⟨i, hi, rfl, rfl, Y⟩ := hrel
        by_cases hlt : i < 13
        · have hltI : (i : Int) < 13 := by omega
          have hlen := hpm.out.len
          obtain ⟨k, hk⟩ : ∃ k, ks[i]? = some k := ⟨_, List.getElem?_eq_getElem (by rw [hlen]; exact hlt)⟩
          have hk13 : k < 13 := hpm.out.lt k (List.mem_of_getElem? hk)
          have hkI : (k : Int) < 13 := by omega
          have hoc := (Y.bel.cell (p := ⟨go, i, none⟩) Z.glt).trans (Z.or_ i k hk)
          have hcn := Y.nm.c k (nmsA_at hk13)
          have hcl := Y.ls k hk13
          have hxb : 0 ≤ c.list.getD k 0 ∧ c.list.getD k 0 ≤ 100 := C.ok_get HK.out (by rw [List.getD_eq_getElem?_getD, List.getElem?_eq_getElem (by rw [C.len]; exact hk13)]; exact List.getElem_mem _)
          obtain ⟨n, hn⟩ : ∃ n : Nat, c.list.getD k 0 = (n : Int) := ⟨(c.list.getD k 0).toNat, by omega⟩
          have hn100 : n ≤ 100 := by omega
          have hpl := Kp.pre2_len HK.out hpm.out.lt i (by rw [hlen]; exact hi)
          obtain ⟨s, hs⟩ : ∃ s, Hid (mkB (Kp.pre2 c ks i) = s) := ⟨_, Lib.hid rfl⟩
          obtain ⟨s1, hs1⟩ : ∃ s, Hid (nmK k = s) := ⟨_, Lib.hid rfl⟩
          obtain ⟨s2, hs2⟩ : ∃ s, Hid (mkB (Lib.itoa (n : Int)) = s) := ⟨_, Lib.hid rfl⟩
          have z0 : s.size ≤ 780 := by rw [← hs.out, mk_size]; omega
          have z1 : s1.size ≤ 10 := by
            rw [← hs1.out]
            have hn : ∀ k : Fin 13, (nmK k.val).size ≤ 10 := by decide
            exact hn ⟨k, hk13⟩
          have z2 : s2.size ≤ 4 := by
            rw [← hs2.out, mk_size]
            exact Kp.itoa_len4 _ (by omega) (by omega)
          have HN := Lib.hid (fun W : World => (by have h := number_any n hn100 W; rw [hs2.out] at h; exact h : Calls Tryz.prog 14 #[.int .i64 (n : Int)] W fun e w' => e = .returned (.string s2) ∧ Below W.heap.size W w'))
          have HT : Hid (mkB (Kp.pre2 c ks (i + 1)) = s ++ ((if i = 0 then (⟨#[]⟩ : ByteArray) else ⟨#[32, 32, 44, 32]⟩) ++ (s1 ++ ⟨#[32]⟩ ++ s2))) := Lib.hid (by
            have e1 : (if i = 0 then (⟨#[]⟩ : ByteArray) else ⟨#[32, 32, 44, 32]⟩) = mkB (if i = 0 then [] else [32, 32, 44, 32]) := by split <;> rfl
            have e2 : (⟨#[32]⟩ : ByteArray) = mkB [32] := rfl
            have e3 : nmK k = mkB (Kp.names.getD k []) := rfl
            rw [e1, e2, ← hs.out, ← hs1.out, ← hs2.out, e3, mk_app, mk_app, mk_app, mk_app, Kp.pre2_next c hk]
            unfold Kp.pcs
            rw [hn])
          rw [hs1.out] at hcn
          rw [hn] at hcl
          rw [hs.out]
          clear hxb hn hn100 hpl hs hs1 hs2 hi hlen hk
          have b0 : Below wr.heap.size wr wr.drew := (Below.refl _ _).drew
          have hab := Y.lt
          have hgl := Y.nm.lt
          by_cases hi0 : 0 < i
          · have hi1 : (0 : Int) < (i : Int) := by omega
            have k0 : (9223372036854775807 < s.size + 4) = False := eq_false (by omega)
            have k1 : (9223372036854775807 < s1.size + 1) = False := eq_false (by omega)
            have k2 : (9223372036854775807 < s1.size + 1 + s2.size) = False := eq_false (by omega)
            have k3 : (9223372036854775807 < s.size + 4 + (s1.size + 1 + s2.size)) = False := eq_false (by omega)
            have HX : Hid (s ++ (⟨#[32, 32, 44, 32]⟩ : ByteArray) ++ (s1 ++ (⟨#[32]⟩ : ByteArray) ++ s2) = mkB (Kp.pre2 c ks (i + 1))) := Lib.hid (by rw [HT.out, if_neg (by omega)]; apply ByteArray.ext; simp [ByteArray.data_append, Array.append_assoc])
            clear HT z0 z1 z2 hi0
            go_wp2_with fail
            go_region_held3 (fun w' => w'.cell? ⟨g, k, none⟩ = some (.string s1) ∧ w'.cell? ⟨ab, aoff + k, none⟩ = some (.int .i64 (n : Int))) (first | exact ⟨hcn, hcl⟩ | exact kg)
              ((go_at_call 14; refine (HN.out _).mono ?_; rintro r w5 ⟨rfl, b3⟩; have b4 := bTrans b0 b3; replace Y := Y.below b4; have kg := And.intro ((b4.cell (p := ⟨g, k, none⟩) hgl).trans hcn) ((b4.cell (p := ⟨ab, aoff + k, none⟩) hab).trans hcl)))
            clear kg b3 b4 hcn hcl hoc k1 k2 k3 hab hgl b0 HN k0
            go_wp2_with fail
            go_roundw
            case rel => exact ⟨i + 1, by omega, by go_num, congrArg Value.string HX.out, Y⟩
            case measure => simp [intOf]; omega
          · have hi1 : ¬ (0 : Int) < (i : Int) := by omega
            have k1 : (9223372036854775807 < s1.size + 1) = False := eq_false (by omega)
            have k2 : (9223372036854775807 < s1.size + 1 + s2.size) = False := eq_false (by omega)
            have k3 : (9223372036854775807 < s.size + (s1.size + 1 + s2.size)) = False := eq_false (by omega)
            have HX : Hid (s ++ (s1 ++ (⟨#[32]⟩ : ByteArray) ++ s2) = mkB (Kp.pre2 c ks (i + 1))) := Lib.hid (by rw [HT.out, if_pos (by omega)]; apply ByteArray.ext; simp [ByteArray.data_append])
            clear HT z0 z1 z2 hi0
            go_wp2_with fail
            go_region_held3 (fun w' => w'.cell? ⟨g, k, none⟩ = some (.string s1) ∧ w'.cell? ⟨ab, aoff + k, none⟩ = some (.int .i64 (n : Int))) (first | exact ⟨hcn, hcl⟩ | exact kg)
              ((go_at_call 14; refine (HN.out _).mono ?_; rintro r w5 ⟨rfl, b3⟩; have b4 := bTrans b0 b3; replace Y := Y.below b4; have kg := And.intro ((b4.cell (p := ⟨g, k, none⟩) hgl).trans hcn) ((b4.cell (p := ⟨ab, aoff + k, none⟩) hab).trans hcl)))
            clear kg b3 b4 hcn hcl hoc k1 k2 k3 hab hgl b0 HN
            go_wp2_with fail
            go_roundw
            case rel => exact ⟨i + 1, by omega, by go_num, congrArg Value.string HX.out, Y⟩
            case measure => simp [intOf]; omega
        · obtain rfl : i = 13 := by omega
          obtain ⟨Q, hQ⟩ : ∃ Q, Hid (mkB (Kp.pre2 c ks 13) = Q) := ⟨_, Lib.hid rfl⟩
          have HQ2 := Lib.hid (fun (W : World) (h : Tk W.heap.size W) => parse_as (s := Q) (c := c) (by rw [← hQ.out, bs_mk]; exact Kp.pre2_all HK.out hpm.out) W h)
          rw [hQ.out]
          clear hQ hpm
          replace Z := Z.below Y.bel
          clear Y
          go_wp2_with fail
          refine (HQ2.out _ (hT.at Z.bel)).mono ?_
          rintro r wa ⟨rfl, b2⟩
          replace Z := Z.below b2
          have D := Z.d
          have C0 := Z.bc
          have KK := putC D
          have CC := farC C0 (show w.heap.size ≠ b7 by omega) (c := c)
          have BB := belowC Z.bel (show w.heap.size ≤ b7 by omega) (c := c)
          obtain ⟨hd0, hd1, hd2, hd3, hd4, hd5, hd6, hd7, hd8, hd9, hd10, hd11, hd12⟩ := c13 D
          have f0 := D.fr 0
          have f1 := D.fr 1
          have f2 := D.fr 2
          have f3 := D.fr 3
          have f4 := D.fr 4
          have f5 := D.fr 5
          have f6 := D.fr 6
          have f7 := D.fr 7
          have f8 := D.fr 8
          have f9 := D.fr 9
          have f10 := D.fr 10
          have f11 := D.fr 11
          have f12 := D.fr 12
          clear b2 Z HQ2 D C0
          go_upto_region 25 with (fail)
          clear hd0 hd1 hd2 hd3 hd4 hd5 hd6 hd7 hd8 hd9 hd10 hd11 hd12 f0 f1 f2 f3 f4 f5 f6 f7 f8 f9 f10 f11 f12
          generalize (((((((((((((wa.setCell ⟨b7, 0, none⟩ (.int .i64 c.assign)).setCell ⟨b7, 1, none⟩ (.int .i64 c.branch)).setCell ⟨b7, 2, none⟩ (.int .i64 c.loop)).setCell ⟨b7, 3, none⟩ (.int .i64 c.call)).setCell ⟨b7, 4, none⟩ (.int .i64 c.output)).setCell ⟨b7, 5, none⟩ (.int .i64 c.release)).setCell ⟨b7, 6, none⟩ (.int .i64 c.load)).setCell ⟨b7, 7, none⟩ (.int .i64 c.index)).setCell ⟨b7, 8, none⟩ (.int .i64 c.arith)).setCell ⟨b7, 9, none⟩ (.int .i64 c.multiply)).setCell ⟨b7, 10, none⟩ (.int .i64 c.divide)).setCell ⟨b7, 11, none⟩ (.int .i64 c.compare)).setCell ⟨b7, 12, none⟩ (.int .i64 c.logic)) = wb at KK CC BB ⊢
          obtain ⟨hc0, hc1, hc2, hc3, hc4, hc5, hc6, hc7, hc8, hc9, hc10, hc11, hc12⟩ := c13 CC
          obtain ⟨hd0, hd1, hd2, hd3, hd4, hd5, hd6, hd7, hd8, hd9, hd10, hd11, hd12⟩ := c13 KK
          go_wp2_with fail
          go_ret
          exact ⟨rfl, BB⟩
theorem inverse_walk (c : C) (us : Nat → Nat) (hus : ∀ i, i < 13 → us i < 256) (w : World) (hT : Tk w.heap.size w) : Calls Tryz.prog 4 #[c.val, .agg (trn us)] w fun r w' => r = .returned (.bool true) ∧ Below w.heap.size w w' := by
  by_cases hk : c.ok = true
  · exact inverse_ok c us hus w hT hk
  · exact inverse_bad c us w hT (by unfold C.code; rw [if_neg hk])
end Go.Proofs.YtmemkcaikajnnaaGreatDoor
