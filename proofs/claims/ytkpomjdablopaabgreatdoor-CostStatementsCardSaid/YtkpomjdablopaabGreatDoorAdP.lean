/- Plain laws of sums of models; walk: the law CostAdds. -/
import Derived.Test.YtkpomjdablopaabGreatDoorSu
import Derived.Test.YtkpomjdablopaabGreatDoorSe
import Derived.Test.YtkpomjdablopaabGreatDoorLf
namespace Go.Proofs.YtkpomjdablopaabGreatDoor
open Go.RowKit Go.Sort
set_option linter.unusedVariables false

theorem opC_add (c d : C) (o : Int) : (C.add c d).opC o = c.opC o + d.opC o := by
  unfold C.opC
  by_cases h3 : o = 3
  · rw [if_pos h3, if_pos h3, if_pos h3]; rfl
  rw [if_neg h3, if_neg h3, if_neg h3]
  by_cases h5 : o = 5
  · rw [if_pos h5, if_pos h5, if_pos h5]; rfl
  rw [if_neg h5, if_neg h5, if_neg h5]
  by_cases h6 : o = 6
  · rw [if_pos h6, if_pos h6, if_pos h6]; rfl
  rw [if_neg h6, if_neg h6, if_neg h6]
  by_cases h8 : o = 8
  · rw [if_pos h8, if_pos h8, if_pos h8]; rfl
  rw [if_neg h8, if_neg h8, if_neg h8]
  by_cases h9 : o = 9
  · rw [if_pos h9, if_pos h9, if_pos h9]; rfl
  rw [if_neg h9, if_neg h9, if_neg h9]
  by_cases h21 : o = 21
  · rw [if_pos h21, if_pos h21, if_pos h21]; rfl
  rw [if_neg h21, if_neg h21, if_neg h21]
  by_cases h22 : o = 22
  · rw [if_pos h22, if_pos h22, if_pos h22]; rfl
  rw [if_neg h22, if_neg h22, if_neg h22]
  by_cases h10 : o = 10
  · rw [if_pos h10, if_pos h10, if_pos h10]; rfl
  rw [if_neg h10, if_neg h10, if_neg h10]
  by_cases h11 : o = 11
  · rw [if_pos h11, if_pos h11, if_pos h11]; rfl
  rw [if_neg h11, if_neg h11, if_neg h11]
  by_cases h12 : o = 12
  · rw [if_pos h12, if_pos h12, if_pos h12]; rfl
  rw [if_neg h12, if_neg h12, if_neg h12]
  by_cases h13 : o = 13
  · rw [if_pos h13, if_pos h13, if_pos h13]; rfl
  rw [if_neg h13, if_neg h13, if_neg h13]
  by_cases h14 : o = 14
  · rw [if_pos h14, if_pos h14, if_pos h14]; rfl
  rw [if_neg h14, if_neg h14, if_neg h14]
  by_cases h15 : o = 15
  · rw [if_pos h15, if_pos h15, if_pos h15]; rfl
  rw [if_neg h15, if_neg h15, if_neg h15]
  by_cases h16 : o = 16
  · rw [if_pos h16, if_pos h16, if_pos h16]; rfl
  rw [if_neg h16, if_neg h16, if_neg h16]
  by_cases h17 : o = 17
  · rw [if_pos h17, if_pos h17, if_pos h17]; rfl
  rw [if_neg h17, if_neg h17, if_neg h17]
  by_cases h18 : o = 18
  · rw [if_pos h18, if_pos h18, if_pos h18]; rfl
  rw [if_neg h18, if_neg h18, if_neg h18]
  by_cases h7 : o = 7
  · rw [if_pos h7, if_pos h7, if_pos h7]; rfl
  rw [if_neg h7, if_neg h7, if_neg h7]
  by_cases h19 : o = 19
  · rw [if_pos h19, if_pos h19, if_pos h19]; rfl
  rw [if_neg h19, if_neg h19, if_neg h19]
  by_cases h20 : o = 20
  · rw [if_pos h20, if_pos h20, if_pos h20]; rfl
  rw [if_neg h20, if_neg h20, if_neg h20]
  by_cases h23 : o = 23
  · rw [if_pos h23, if_pos h23, if_pos h23]; rfl
  rw [if_neg h23, if_neg h23, if_neg h23]
  rfl
theorem sum_add (c d : C) (e : E) : e.sum (C.add c d).opC = e.sum c.opC + e.sum d.opC := by
  induction e using E.ind with
  | h e ih =>
    have key : ∀ l : List E, (∀ k ∈ l, k.sum (C.add c d).opC = k.sum c.opC + k.sum d.opC) → E.sumL (C.add c d).opC l = E.sumL c.opC l + E.sumL d.opC l := by
      intro l
      induction l with
      | nil => intro _; simp [E.sumL]
      | cons a l ihl =>
        intro hh
        simp only [E.sumL]
        rw [hh a (by simp), ihl (fun k hk => hh k (by simp [hk]))]
        omega
    rw [E.sum_eq, E.sum_eq c.opC, E.sum_eq d.opC, opC_add, key e.ks ih]
    omega
theorem load_le {c : C} (hc : c.ok = true) {e : E} (h : e.rplace = true) : c.load ≤ e.sum c.opC := by
  revert h
  induction e using E.ind with
  | h e ih =>
    intro h
    rw [E.rplace_eq] at h
    rw [E.sum_eq]
    have h1 := C.sumL_bd hc e.ks
    have h2 := C.opC_bd hc e.op
    by_cases h3 : e.op = 3
    · have : c.opC e.op = c.load := by rw [h3]; unfold C.opC; simp
      omega
    · have hh : E.rplaceH e.ks = true := by
        simp only [Bool.or_eq_true, Bool.and_eq_true, beq_iff_eq] at h
        rcases h with h | h
        · exact absurd h h3
        · exact h.2
      cases hk : e.ks with
      | nil => rw [hk] at hh; simp [E.rplaceH] at hh
      | cons k l =>
        rw [hk] at hh
        have h4 := ih k (by rw [hk]; simp) (by simpa [E.rplaceH] using hh)
        have h5 := C.sumL_bd hc l
        simp only [E.sumL]
        omega
theorem ckC_same {c d : C} (hc : c.ok = true) (hd : d.ok = true) (l : List E) : ckC c l = ckC d l := by unfold ckC; rw [hc, hd]
theorem seK_same {c d : C} (hc : c.ok = true) (hd : d.ok = true) (p v : E) (s : Int) : seK c p v s = seK d p v s := by unfold seK; rw [ckC_same hc hd]
theorem seK_zero {c : C} {p v : E} {s : Int} (h : seK c p v s = 0) : c.ok = true ∧ E.Ok nmB p ∧ E.Ok nmB v ∧ p.place = true ∧ 0 ≤ s ∧ s ≤ 32 := by
  obtain ⟨e1, e2, e3⟩ := orL_three h
  obtain ⟨a, b, d⟩ := ckC_two e1
  refine ⟨a, b, d, ?_, scC_all e3 (i := 0) (z := s) ⟨by simp, rfl⟩⟩
  unfold plC at e2
  cases hp : p.place with
  | true => rfl
  | false => rw [hp] at e2; exact absurd e2 (by decide)
theorem seN_bd {c : C} {p v : E} {s : Int} : 0 ≤ seN c p v s ∧ seN c p v s ≤ 300000 := by
  unfold seN
  by_cases h : seK c p v s = 0
  · rw [if_pos h]
    obtain ⟨hc, op_, ov, hpl, hs⟩ := seK_zero h
    have h1 := mul_bd (C.ok_get hc (x := c.assign) (by simp [C.list])) hs
    have h2 := load_le hc (E.place_deep op_.mal hpl)
    have h3 := C.sum_bd hc p
    have h4 := C.sum_bd hc v
    have h5 := op_.nodes
    have h6 := ov.nodes
    have h7 := C.ok_get hc (x := c.load) (by simp [C.list])
    unfold plN
    omega
  · rw [if_neg h]; omega
theorem seN_add {c d : C} (hc : c.ok = true) (hd : d.ok = true) (ha : (C.add c d).ok = true) (p v : E) (s : Int) : seN (C.add c d) p v s = seN c p v s + seN d p v s := by
  unfold seN
  rw [seK_same ha hc, seK_same hd hc]
  by_cases h : seK c p v s = 0
  · rw [if_pos h, if_pos h, if_pos h]
    unfold plN
    rw [sum_add, sum_add]
    have e : (C.add c d).assign * s = c.assign * s + d.assign * s := Int.add_mul _ _ _
    have e2 : (C.add c d).load = c.load + d.load := rfl
    rw [e, e2]
    omega
  · rw [if_neg h, if_neg h, if_neg h]; rfl
theorem moN_bd {c : C} {e : E} : 0 ≤ moN c.branch c e ∧ moN c.branch c e ≤ 110000 := by
  unfold moN
  by_cases h : ckC c [e] = 0
  · rw [if_pos h]
    have h1 := exN_bd h
    have h2 := C.ok_get (ckC_zero h).1 (x := c.branch) (by simp [C.list])
    omega
  · rw [if_neg h]; omega
theorem moN_add {c d : C} (hc : c.ok = true) (hd : d.ok = true) (ha : (C.add c d).ok = true) (e : E) : moN (C.add c d).branch (C.add c d) e = moN c.branch c e + moN d.branch d e := by
  unfold moN exN
  rw [ckC_same ha hc, ckC_same hd hc]
  by_cases h : ckC c [e] = 0
  · simp only [if_pos h]
    rw [sum_add]
    have e2 : (C.add c d).branch = c.branch + d.branch := rfl
    rw [e2]
    omega
  · simp only [if_neg h]; rfl
/-- the parts of a statement -/
abbrev pcs (x y : E) (s : Int) : Array Value := #[.int .i64 x.op, .int .i64 x.n, .string x.nm, .slice x.ad x.ks.length x.cap, .int .i64 y.op, .int .i64 y.n, .string y.nm, .slice y.ad y.ks.length y.cap, .int .i64 s]
/-- the boxes of the law -/
structure AdW (w wr : World) (c d : C) (x y : E) (s : Int) : Prop where
  bc : Blk wr w.heap.size c.box
  bd : Blk wr (w.heap.size + 1) d.box
  bp : Blk wr (w.heap.size + 2) (pcs x y s)
  bel : Below w.heap.size w wr
theorem AdW.below {w wr w' : World} {c d : C} {x y : E} {s : Int} (h : AdW w wr c d x y s) (hb : Below wr.heap.size wr w') : AdW w w' c d x y s := ⟨h.bc.below hb h.bc.lt, h.bd.below hb h.bd.lt, h.bp.below hb h.bp.lt, bTrans h.bel hb⟩
theorem AdW.start (w : World) (c d : C) (x y : E) (s : Int) (T T' T'' : TypeId) : AdW w (((w.alloc (.cells c.box T)).alloc (.cells d.box T')).alloc (.cells (pcs x y s) T'')) c d x y s :=
  ⟨((Blk.new_ _ _ _).alloc _).alloc _, (Blk.new' (by simp)).alloc _, Blk.new' (by simp), ((al1 w _).alloc (by simp) _).alloc (by simp; omega) _⟩
theorem p9 {w : World} {b : Nat} {x y : E} {s : Int} (h : Blk w b (pcs x y s)) : w.cell? ⟨b, 0, none⟩ = some (.int .i64 x.op) ∧ w.cell? ⟨b, 1, none⟩ = some (.int .i64 x.n) ∧ w.cell? ⟨b, 2, none⟩ = some (.string x.nm) ∧ w.cell? ⟨b, 3, none⟩ = some (.slice x.ad x.ks.length x.cap) ∧ w.cell? ⟨b, 4, none⟩ = some (.int .i64 y.op) ∧ w.cell? ⟨b, 5, none⟩ = some (.int .i64 y.n) ∧ w.cell? ⟨b, 6, none⟩ = some (.string y.nm) ∧ w.cell? ⟨b, 7, none⟩ = some (.slice y.ad y.ks.length y.cap) ∧ w.cell? ⟨b, 8, none⟩ = some (.int .i64 s) :=
  ⟨h.c 0 rfl, h.c 1 rfl, h.c 2 rfl, h.c 3 rfl, h.c 4 rfl, h.c 5 rfl, h.c 6 rfl, h.c 7 rfl, h.c 8 rfl⟩
end Go.Proofs.YtkpomjdablopaabGreatDoor
