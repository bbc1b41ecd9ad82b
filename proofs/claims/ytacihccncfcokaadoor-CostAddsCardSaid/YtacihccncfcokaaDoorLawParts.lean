/- Walk: the law CostParts. -/
import Derived.Test.YtacihccncfcokaaDoorLf
namespace Go.Proofs.YtacihccncfcokaaDoor
open Go.RowKit Go.Sort
set_option linter.unusedVariables false

theorem ckC_mk {c : C} {e : E} (hc : c.ok = true) (h : E.Ok nmB e) : ckC c [e] = 0 := by rw [ckC1, hc]; exact E.chk_ok.2 h
theorem exN_mk {c : C} {e : E} (h : ckC c [e] = 0) : exN c e = e.sum c.opC := by unfold exN; rw [if_pos h]
/-- what the law says, plain -/
theorem parts_plain {c : C} {op : Int} {p q : Option Addr} {x y : E} (h : ckC c [E.two op p x y] = 0) (h5 : op ≠ 5) :
    ckC c [x] = 0 ∧ ckC c [y] = 0 ∧ ckC c [E.two op q (E.lit 0) (E.lit 1)] = 0 ∧ exN c (E.two op p x y) = exN c x + exN c y + exN c (E.two op q (E.lit 0) (E.lit 1))
      ∧ 0 ≤ exN c x ∧ exN c x ≤ 102400 ∧ 0 ≤ exN c y ∧ exN c y ≤ 102400 ∧ 0 ≤ exN c (E.two op q (E.lit 0) (E.lit 1)) ∧ exN c (E.two op q (E.lit 0) (E.lit 1)) ≤ 102400 := by
  obtain ⟨hc, ho⟩ := ckC_zero h
  have ox : E.Ok nmB x := ho.kid (by simp [E.ks])
  have oy : E.Ok nmB y := ho.kid (by simp [E.ks])
  have ow : E.Ok nmB (E.two op q (E.lit 0) (E.lit 1)) := E.Ok.own ho h5
  have kx := ckC_mk hc ox
  have ky := ckC_mk hc oy
  have kw := ckC_mk hc ow
  have bx := C.sum_bd hc x
  have by_ := C.sum_bd hc y
  have bw := C.sum_bd hc (E.two op q (E.lit 0) (E.lit 1))
  have nx := ox.nodes
  have ny := oy.nodes
  have nw := ow.nodes
  rw [exN_mk h, exN_mk kx, exN_mk ky, exN_mk kw]
  refine ⟨kx, ky, kw, ?_, by omega, by omega, by omega, by omega, by omega, by omega⟩
  have z : c.opC 0 = 0 := by unfold C.opC; simp
  simp only [E.sum_eq, E.op, E.ks, E.sumL, z]
  omega
/-- the cells of two expressions -/
abbrev pr (x y : E) : Array Value := #[.int .i64 x.op, .int .i64 x.n, .string x.nm, .slice x.ad x.ks.length x.cap, .int .i64 y.op, .int .i64 y.n, .string y.nm, .slice y.ad y.ks.length y.cap]
/-- the boxes of the law -/
structure PaW (w wr : World) (c : C) (x y : E) : Prop where
  bc : Blk wr w.heap.size c.box
  bl : Blk wr (w.heap.size + 1) (pr x y)
  bel : Below w.heap.size w wr
theorem PaW.start (w : World) (c : C) (x y : E) (T T' : TypeId) : PaW w ((w.alloc (.cells c.box T)).alloc (.cells (pr x y) T')) c x y :=
  ⟨(Blk.new_ _ _ _).alloc _, Blk.new' (by simp), (al1 w _).alloc (by simp) _⟩
theorem PaW.below {w wr w' : World} {c : C} {x y : E} (h : PaW w wr c x y) (hb : Below wr.heap.size wr w') : PaW w w' c x y := ⟨h.bc.below hb h.bc.lt, h.bl.below hb h.bl.lt, bTrans h.bel hb⟩
theorem PaW.S {w wr : World} {c : C} {x y : E} (h : PaW w wr c x y) : wr.cell? ⟨w.heap.size + 1, 0, none⟩ = some (.int .i64 x.op) ∧ wr.cell? ⟨w.heap.size + 1, 1, none⟩ = some (.int .i64 x.n) ∧ wr.cell? ⟨w.heap.size + 1, 2, none⟩ = some (.string x.nm) ∧ wr.cell? ⟨w.heap.size + 1, 3, none⟩ = some (.slice x.ad x.ks.length x.cap) ∧ wr.cell? ⟨w.heap.size + 1, 4, none⟩ = some (.int .i64 y.op) ∧ wr.cell? ⟨w.heap.size + 1, 5, none⟩ = some (.int .i64 y.n) ∧ wr.cell? ⟨w.heap.size + 1, 6, none⟩ = some (.string y.nm) ∧ wr.cell? ⟨w.heap.size + 1, 7, none⟩ = some (.slice y.ad y.ks.length y.cap) :=
  ⟨h.bl.c 0 rfl, h.bl.c 1 rfl, h.bl.c 2 rfl, h.bl.c 3 rfl, h.bl.c 4 rfl, h.bl.c 5 rfl, h.bl.c 6 rfl, h.bl.c 7 rfl⟩
theorem two_big {op : Int} {p : Option Addr} {x y : E} (hx : x.any E.big = false) (hy : y.any E.big = false) : (E.two op p x y).any E.big = false := by
  rw [E.any_eq]
  simp only [E.ks, E.anyL, hx, hy]
  rfl
theorem lit_big (n : Int) : (E.lit n).any E.big = false := by rw [E.any_eq]; rfl

set_option maxRecDepth 100000 in
set_option maxHeartbeats 8000000 in
theorem parts_walk (c : C) (op : Int) (x y : E) (w : World) (hc : c.Wf) (ho : inI op) (hx : E.In w w.heap.size x) (hy : E.In w w.heap.size y) (hT : Tb w.heap.size w) : Calls Tryd.prog 7 #[c.val, .int .i64 op, .agg (pr x y)] w fun r w' => r = .returned (.bool true) ∧ Below w.heap.size w w' := by
  have X := PaW.start w c x y 23 47
  go_enter Tryd.func7, Tryd.ntmps7
  go_upto_region 1 with (fail)
  revert X
  generalize (w.alloc (.cells #[.int .i64 c.assign, .int .i64 c.branch, .int .i64 c.loop, .int .i64 c.call, .int .i64 c.output, .int .i64 c.release, .int .i64 c.load, .int .i64 c.index, .int .i64 c.arith, .int .i64 c.multiply, .int .i64 c.divide, .int .i64 c.compare, .int .i64 c.logic] 23)).alloc (.cells #[.int .i64 x.op, .int .i64 x.n, .string x.nm, .slice x.ad x.ks.length x.cap, .int .i64 y.op, .int .i64 y.n, .string y.nm, .slice y.ad y.ks.length y.cap] 47) = w1
  intro X
  go_wp2_with fail
  refine (known_ok _ (hT.at X.bel)).mono ?_
  rintro r w2 ⟨rfl, b2⟩
  replace X := X.below b2
  clear b2
  obtain ⟨x0, x1, x2, x3, x4, x5, x6, x7⟩ := X.S
  go_wp2_with fail
  refine (few_any x _ (hx.at X.bel)).mono ?_
  rintro r w3 ⟨rfl, b3⟩
  replace X := X.below b3
  clear b3 x0 x1 x2 x3 x4 x5 x6 x7
  cases hfx : fewB x 300 with
  | false =>
    have b4 := X.bel
    clear hfx
    go_wp2_with fail
    go_ret
    exact ⟨rfl, b4⟩
  | true =>
  have HFX := Lib.hid (few_fit hx hfx)
  clear hfx
  obtain ⟨x0, x1, x2, x3, x4, x5, x6, x7⟩ := X.S
  go_wp2_with fail
  refine (few_any y _ (hy.at X.bel)).mono ?_
  rintro r w4 ⟨rfl, b4⟩
  replace X := X.below b4
  clear b4 x0 x1 x2 x3 x4 x5 x6 x7
  cases hfy : fewB y 300 with
  | false =>
    have b4 := X.bel
    clear hfy
    go_wp2_with fail
    go_ret
    exact ⟨rfl, b4⟩
  | true =>
  have HFY := Lib.hid (few_fit hy hfy)
  clear hfy
  obtain ⟨x0, x1, x2, x3, x4, x5, x6, x7⟩ := X.S
  obtain ⟨hc0, hc1, hc2, hc3, hc4, hc5, hc6, hc7, hc8, hc9, hc10, hc11, hc12⟩ := c13 X.bc
  have G : Good (w4.alloc (.cells (pr x y) 35)) (E.two op (some ⟨w4.heap.size, 0, none⟩) x y) :=
    ⟨E.two_in w4 op x y 35 ho (hx.at X.bel) (hy.at X.bel) _ rfl, two_big HFX.out.1.big HFY.out.1.big⟩
  go_wp2_with fail
  refine (cexpr_any c (E.two op (some ⟨w4.heap.size, 0, none⟩) x y) _ G (hT.at (X.below (al1 _ _)).bel)).mono ?_
  rintro r w5 ⟨rfl, b5⟩
  replace X := (X.below (al1 _ _)).below b5
  clear b5 G x0 x1 x2 x3 x4 x5 x6 x7 hc0 hc1 hc2 hc3 hc4 hc5 hc6 hc7 hc8 hc9 hc10 hc11 hc12
  obtain ⟨p, hp⟩ : ∃ p, Hid (some (⟨w4.heap.size, 0, none⟩ : Addr) = p) := ⟨_, Lib.hid rfl⟩
  rw [hp.out]
  by_cases h0 : ckC c [E.two op p x y] = 0
  case neg =>
    have HN : Hid (exN c (E.two op p x y) = 0) := Lib.hid (by unfold exN; rw [if_neg h0])
    obtain ⟨k, hk⟩ : ∃ k, Hid (ckC c [E.two op p x y] = k) := ⟨_, Lib.hid rfl⟩
    rw [HN.out, hk.out]
    have hne : (k != 0) = true := by rw [← hk.out]; simpa using h0
    have b4 := X.bel
    clear h0 hk
    go_wp2_with fail
    go_ret
    exact ⟨rfl, b4⟩
  case pos =>
  rw [h0]
  by_cases h5 : op = 5
  · obtain ⟨n, hn⟩ : ∃ n, Hid (exN c (E.two op p x y) = n) := ⟨_, Lib.hid rfl⟩
    rw [hn.out]
    have q5 : (op == 5) = true := by rw [h5]; rfl
    have b4 := X.bel
    clear h0 h5 hn
    by_cases hn0 : n = 0
    · have qn : (n == 0) = true := by rw [hn0]; rfl
      clear hn0
      go_wp2_with fail
      go_ret
      exact ⟨rfl, b4⟩
    · have qn : (n == 0) = false := by simpa using hn0
      clear hn0
      go_wp2_with fail
      go_ret
      exact ⟨rfl, b4⟩
  have HP := Lib.hid (fun q => parts_plain (q := q) h0 h5)
  have q5 : (op == 5) = false := by simpa using h5
  clear h0 h5
  have P0 := Lib.hid (HP.out none)
  obtain ⟨x0, x1, x2, x3, x4, x5, x6, x7⟩ := X.S
  obtain ⟨hc0, hc1, hc2, hc3, hc4, hc5, hc6, hc7, hc8, hc9, hc10, hc11, hc12⟩ := c13 X.bc
  obtain ⟨n, hn⟩ : ∃ n, Hid (exN c (E.two op p x y) = n) := ⟨_, Lib.hid rfl⟩
  rw [hn.out]
  go_wp2_with fail
  refine (cexpr_any c x _ (HFX.out.1.good.at X.bel) (hT.at X.bel)).mono ?_
  rintro r w6 ⟨rfl, b6⟩
  rw [P0.out.1]
  obtain ⟨a, ha⟩ : ∃ a, Hid (exN c x = a) := ⟨_, Lib.hid rfl⟩
  rw [ha.out]
  replace X := X.below b6
  clear b6 x0 x1 x2 x3 x4 x5 x6 x7 hc0 hc1 hc2 hc3 hc4 hc5 hc6 hc7 hc8 hc9 hc10 hc11 hc12
  obtain ⟨x0, x1, x2, x3, x4, x5, x6, x7⟩ := X.S
  obtain ⟨hc0, hc1, hc2, hc3, hc4, hc5, hc6, hc7, hc8, hc9, hc10, hc11, hc12⟩ := c13 X.bc
  go_wp2_with fail
  refine (cexpr_any c y _ (HFY.out.1.good.at X.bel) (hT.at X.bel)).mono ?_
  rintro r w7 ⟨rfl, b7⟩
  rw [P0.out.2.1]
  obtain ⟨b, hb⟩ : ∃ b, Hid (exN c y = b) := ⟨_, Lib.hid rfl⟩
  rw [hb.out]
  replace X := X.below b7
  clear b7 x0 x1 x2 x3 x4 x5 x6 x7 hc0 hc1 hc2 hc3 hc4 hc5 hc6 hc7 hc8 hc9 hc10 hc11 hc12
  obtain ⟨hc0, hc1, hc2, hc3, hc4, hc5, hc6, hc7, hc8, hc9, hc10, hc11, hc12⟩ := c13 X.bc
  have G : Good (w7.alloc (.cells (pr (E.lit 0) (E.lit 1)) 35)) (E.two op (some ⟨w7.heap.size, 0, none⟩) (E.lit 0) (E.lit 1)) :=
    ⟨E.two_in w7 op (E.lit 0) (E.lit 1) 35 ho (E.leaf_in _ _ _ _ _ ⟨by decide, by decide⟩ ⟨by decide, by decide⟩ (by decide)) (E.leaf_in _ _ _ _ _ ⟨by decide, by decide⟩ ⟨by decide, by decide⟩ (by decide)) _ rfl, two_big (lit_big _) (lit_big _)⟩
  go_wp2_with fail
  refine (cexpr_any c (E.two op (some ⟨w7.heap.size, 0, none⟩) (E.lit 0) (E.lit 1)) _ G (hT.at (X.below (al1 _ _)).bel)).mono ?_
  rintro r w8 ⟨rfl, b8⟩
  have b9 := ((X.below (al1 _ (.cells (pr (E.lit 0) (E.lit 1)) 35))).below b8).bel
  obtain ⟨e1, e2, e3, e4', l1, l2, l3, l4, l5, l6⟩ := HP.out (some ⟨w7.heap.size, 0, none⟩)
  rw [e3]
  obtain ⟨o, hoo⟩ : ∃ o, Hid (exN c (E.two op (some ⟨w7.heap.size, 0, none⟩) (E.lit 0) (E.lit 1)) = o) := ⟨_, Lib.hid rfl⟩
  rw [hoo.out] at l5 l6 e4' ⊢
  rw [ha.out] at l1 l2 e4'
  rw [hb.out] at l3 l4 e4'
  rw [hn.out] at e4'
  subst e4'
  clear b8 G e1 e2 e3 hoo ha hb hn X HP P0 hc0 hc1 hc2 hc3 hc4 hc5 hc6 hc7 hc8 hc9 hc10 hc11 hc12
  have hw1 : IntKind.i64.wrap (a + b) = a + b := IntWalk.i64_in _ (by omega)
  have hw2 : IntKind.i64.wrap (a + b + o) = a + b + o := IntWalk.i64_in _ (by omega)
  go_wp2_with fail
  go_ret
  exact ⟨rfl, b9⟩
end Go.Proofs.YtacihccncfcokaaDoor
