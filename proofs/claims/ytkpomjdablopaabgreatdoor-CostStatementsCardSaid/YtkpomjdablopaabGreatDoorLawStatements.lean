/- Walk: the law CostStatements. -/
import Derived.Test.YtkpomjdablopaabGreatDoorS3
import Derived.Test.YtkpomjdablopaabGreatDoorS4
import Derived.Test.YtkpomjdablopaabGreatDoorAdP
import Derived.Test.YtkpomjdablopaabGreatDoorLf
namespace Go.Proofs.YtkpomjdablopaabGreatDoor
open Go.RowKit Go.Sort
set_option linter.unusedVariables false

/-- the boxes of the law -/
structure StW (w wr : World) (c : C) (x y : E) (s : Int) : Prop where
  bc : Blk wr w.heap.size c.box
  bp : Blk wr (w.heap.size + 1) (pcs x y s)
  bel : Below w.heap.size w wr
theorem StW.below {w wr w' : World} {c : C} {x y : E} {s : Int} (h : StW w wr c x y s) (hb : Below wr.heap.size wr w') : StW w w' c x y s := ⟨h.bc.below hb h.bc.lt, h.bp.below hb h.bp.lt, bTrans h.bel hb⟩
theorem StW.start (w : World) (c : C) (x y : E) (s : Int) (T T' : TypeId) : StW w ((w.alloc (.cells c.box T)).alloc (.cells (pcs x y s) T')) c x y s :=
  ⟨(Blk.new_ _ _ _).alloc _, Blk.new' (by simp), (al1 w _).alloc (by simp) _⟩
set_option maxRecDepth 100000 in
set_option maxHeartbeats 8000000 in
theorem statements_walk (c : C) (x y : E) (s : Int) (w : World) (hc : c.Wf) (hx : E.In w w.heap.size x) (hy : E.In w w.heap.size y) (hs : inI s) (hT : Tb w.heap.size w) : Calls Tryz.prog 3 #[c.val, .agg (pcs x y s)] w fun r w' => r = .returned (.bool true) ∧ Below w.heap.size w w' := by
  have X := StW.start w c x y s 23 29
  go_enter Tryz.func3, Tryz.ntmps3
  go_upto_region 1 with (fail)
  revert X
  generalize (w.alloc (.cells #[.int .i64 c.assign, .int .i64 c.branch, .int .i64 c.loop, .int .i64 c.call, .int .i64 c.output, .int .i64 c.release, .int .i64 c.load, .int .i64 c.index, .int .i64 c.arith, .int .i64 c.multiply, .int .i64 c.divide, .int .i64 c.compare, .int .i64 c.logic] 23)).alloc (.cells (pcs x y s) 29) = w1
  intro X
  go_wp2_with fail
  refine (known_ok _ (hT.at X.bel)).mono ?_
  rintro r w2 ⟨rfl, b2⟩
  replace X := X.below b2
  clear b2
  obtain ⟨hc0, hc1, hc2, hc3, hc4, hc5, hc6, hc7, hc8, hc9, hc10, hc11, hc12⟩ := c13 X.bc
  obtain ⟨hp0, hp1, hp2, hp3, hp4, hp5, hp6, hp7, hp8⟩ := p9 X.bp
  go_wp2_with fail
  refine (few_any x _ (hx.at X.bel)).mono ?_
  rintro r w3 ⟨rfl, b2⟩
  replace X := X.below b2
  clear b2
  clear hc0 hc1 hc2 hc3 hc4 hc5 hc6 hc7 hc8 hc9 hc10 hc11 hc12 hp0 hp1 hp2 hp3 hp4 hp5 hp6 hp7 hp8
  cases hf : fewB x 300 with
  | false =>
    clear hf
    have b4 := X.bel
    obtain ⟨hc0, hc1, hc2, hc3, hc4, hc5, hc6, hc7, hc8, hc9, hc10, hc11, hc12⟩ := c13 X.bc
    obtain ⟨hp0, hp1, hp2, hp3, hp4, hp5, hp6, hp7, hp8⟩ := p9 X.bp
    go_wp2_with fail
    go_ret
    exact ⟨rfl, b4⟩
  | true =>
  have HFX := Lib.hid (few_fit hx hf)
  clear hf
  obtain ⟨hc0, hc1, hc2, hc3, hc4, hc5, hc6, hc7, hc8, hc9, hc10, hc11, hc12⟩ := c13 X.bc
  obtain ⟨hp0, hp1, hp2, hp3, hp4, hp5, hp6, hp7, hp8⟩ := p9 X.bp
  go_wp2_with fail
  refine (few_any y _ (hy.at X.bel)).mono ?_
  rintro r w4 ⟨rfl, b2⟩
  replace X := X.below b2
  clear b2
  clear hc0 hc1 hc2 hc3 hc4 hc5 hc6 hc7 hc8 hc9 hc10 hc11 hc12 hp0 hp1 hp2 hp3 hp4 hp5 hp6 hp7 hp8
  cases hf : fewB y 300 with
  | false =>
    clear hf
    have b4 := X.bel
    obtain ⟨hc0, hc1, hc2, hc3, hc4, hc5, hc6, hc7, hc8, hc9, hc10, hc11, hc12⟩ := c13 X.bc
    obtain ⟨hp0, hp1, hp2, hp3, hp4, hp5, hp6, hp7, hp8⟩ := p9 X.bp
    go_wp2_with fail
    go_ret
    exact ⟨rfl, b4⟩
  | true =>
  have HFY := Lib.hid (few_fit hy hf)
  clear hf
  obtain ⟨a1, ha1⟩ : ∃ a, Hid (seN c x y s = a) := ⟨_, Lib.hid rfl⟩
  obtain ⟨a2, ha2⟩ : ∃ a, Hid (seK c x y s = a) := ⟨_, Lib.hid rfl⟩
  obtain ⟨a3, ha3⟩ : ∃ a, Hid (relN c x = a) := ⟨_, Lib.hid rfl⟩
  obtain ⟨a4, ha4⟩ : ∃ a, Hid (plK c x = a) := ⟨_, Lib.hid rfl⟩
  obtain ⟨a5, ha5⟩ : ∃ a, Hid (moN c.output c y = a) := ⟨_, Lib.hid rfl⟩
  obtain ⟨a6, ha6⟩ : ∃ a, Hid (moN c.branch c y = a) := ⟨_, Lib.hid rfl⟩
  obtain ⟨a7, ha7⟩ : ∃ a, Hid (moN c.loop c y = a) := ⟨_, Lib.hid rfl⟩
  obtain ⟨a8, ha8⟩ : ∃ a, Hid (ckC c [y] = a) := ⟨_, Lib.hid rfl⟩
  obtain ⟨hc0, hc1, hc2, hc3, hc4, hc5, hc6, hc7, hc8, hc9, hc10, hc11, hc12⟩ := c13 X.bc
  obtain ⟨hp0, hp1, hp2, hp3, hp4, hp5, hp6, hp7, hp8⟩ := p9 X.bp
  go_wp2_with fail
  refine (cset_any c x y s _ ((HFX.out.1.at X.bel).good) ((HFY.out.1.at X.bel).good) (hT.at X.bel)).mono ?_
  rintro r w5 ⟨rfl, b2⟩
  rw [ha1.out, ha2.out]
  replace X := X.below b2
  clear b2
  clear hc0 hc1 hc2 hc3 hc4 hc5 hc6 hc7 hc8 hc9 hc10 hc11 hc12 hp0 hp1 hp2 hp3 hp4 hp5 hp6 hp7 hp8
  obtain ⟨hc0, hc1, hc2, hc3, hc4, hc5, hc6, hc7, hc8, hc9, hc10, hc11, hc12⟩ := c13 X.bc
  obtain ⟨hp0, hp1, hp2, hp3, hp4, hp5, hp6, hp7, hp8⟩ := p9 X.bp
  go_wp2_with fail
  refine (cleave_any c x y s _ ((HFX.out.1.at X.bel).good) ((HFY.out.1.at X.bel).good) (hT.at X.bel)).mono ?_
  rintro r w6 ⟨rfl, b2⟩
  rw [ha1.out, ha2.out]
  replace X := X.below b2
  clear b2
  clear hc0 hc1 hc2 hc3 hc4 hc5 hc6 hc7 hc8 hc9 hc10 hc11 hc12 hp0 hp1 hp2 hp3 hp4 hp5 hp6 hp7 hp8
  obtain ⟨hc0, hc1, hc2, hc3, hc4, hc5, hc6, hc7, hc8, hc9, hc10, hc11, hc12⟩ := c13 X.bc
  obtain ⟨hp0, hp1, hp2, hp3, hp4, hp5, hp6, hp7, hp8⟩ := p9 X.bp
  go_wp2_with fail
  refine (crelease_any c x _ ((HFX.out.1.at X.bel).good) (hT.at X.bel)).mono ?_
  rintro r w7 ⟨rfl, b2⟩
  rw [ha3.out, ha4.out]
  replace X := X.below b2
  clear b2
  clear hc0 hc1 hc2 hc3 hc4 hc5 hc6 hc7 hc8 hc9 hc10 hc11 hc12 hp0 hp1 hp2 hp3 hp4 hp5 hp6 hp7 hp8
  obtain ⟨hc0, hc1, hc2, hc3, hc4, hc5, hc6, hc7, hc8, hc9, hc10, hc11, hc12⟩ := c13 X.bc
  obtain ⟨hp0, hp1, hp2, hp3, hp4, hp5, hp6, hp7, hp8⟩ := p9 X.bp
  go_wp2_with fail
  refine (coutput_any c y _ ((HFY.out.1.at X.bel).good) (hT.at X.bel)).mono ?_
  rintro r w8 ⟨rfl, b2⟩
  rw [ha5.out, ha8.out]
  replace X := X.below b2
  clear b2
  clear hc0 hc1 hc2 hc3 hc4 hc5 hc6 hc7 hc8 hc9 hc10 hc11 hc12 hp0 hp1 hp2 hp3 hp4 hp5 hp6 hp7 hp8
  obtain ⟨hc0, hc1, hc2, hc3, hc4, hc5, hc6, hc7, hc8, hc9, hc10, hc11, hc12⟩ := c13 X.bc
  obtain ⟨hp0, hp1, hp2, hp3, hp4, hp5, hp6, hp7, hp8⟩ := p9 X.bp
  go_wp2_with fail
  refine (cif_any c y _ ((HFY.out.1.at X.bel).good) (hT.at X.bel)).mono ?_
  rintro r w9 ⟨rfl, b2⟩
  rw [ha6.out, ha8.out]
  replace X := X.below b2
  clear b2
  clear hc0 hc1 hc2 hc3 hc4 hc5 hc6 hc7 hc8 hc9 hc10 hc11 hc12 hp0 hp1 hp2 hp3 hp4 hp5 hp6 hp7 hp8
  obtain ⟨hc0, hc1, hc2, hc3, hc4, hc5, hc6, hc7, hc8, hc9, hc10, hc11, hc12⟩ := c13 X.bc
  obtain ⟨hp0, hp1, hp2, hp3, hp4, hp5, hp6, hp7, hp8⟩ := p9 X.bp
  go_wp2_with fail
  refine (cwhile_any c y _ ((HFY.out.1.at X.bel).good) (hT.at X.bel)).mono ?_
  rintro r w10 ⟨rfl, b2⟩
  rw [ha7.out, ha8.out]
  replace X := X.below b2
  clear b2
  clear hc0 hc1 hc2 hc3 hc4 hc5 hc6 hc7 hc8 hc9 hc10 hc11 hc12 hp0 hp1 hp2 hp3 hp4 hp5 hp6 hp7 hp8
  obtain ⟨hc0, hc1, hc2, hc3, hc4, hc5, hc6, hc7, hc8, hc9, hc10, hc11, hc12⟩ := c13 X.bc
  obtain ⟨hp0, hp1, hp2, hp3, hp4, hp5, hp6, hp7, hp8⟩ := p9 X.bp
  go_wp2_with fail
  refine (rset_any c x y s _ (HFX.out.1.at X.bel) (HFY.out.1.at X.bel)).mono ?_
  rintro r w11 ⟨rfl, b2⟩
  rw [ha1.out, ha2.out]
  replace X := X.below b2
  clear b2
  clear hc0 hc1 hc2 hc3 hc4 hc5 hc6 hc7 hc8 hc9 hc10 hc11 hc12 hp0 hp1 hp2 hp3 hp4 hp5 hp6 hp7 hp8
  obtain ⟨hc0, hc1, hc2, hc3, hc4, hc5, hc6, hc7, hc8, hc9, hc10, hc11, hc12⟩ := c13 X.bc
  obtain ⟨hp0, hp1, hp2, hp3, hp4, hp5, hp6, hp7, hp8⟩ := p9 X.bp
  go_wp2_with fail
  refine (rleave_any c x y s _ (HFX.out.1.at X.bel) (HFY.out.1.at X.bel)).mono ?_
  rintro r w12 ⟨rfl, b2⟩
  rw [ha1.out, ha2.out]
  replace X := X.below b2
  clear b2
  clear hc0 hc1 hc2 hc3 hc4 hc5 hc6 hc7 hc8 hc9 hc10 hc11 hc12 hp0 hp1 hp2 hp3 hp4 hp5 hp6 hp7 hp8
  obtain ⟨hc0, hc1, hc2, hc3, hc4, hc5, hc6, hc7, hc8, hc9, hc10, hc11, hc12⟩ := c13 X.bc
  obtain ⟨hp0, hp1, hp2, hp3, hp4, hp5, hp6, hp7, hp8⟩ := p9 X.bp
  go_wp2_with fail
  refine (rrelease_any c x _ (HFX.out.1.at X.bel)).mono ?_
  rintro r w13 ⟨rfl, b2⟩
  rw [ha3.out, ha4.out]
  replace X := X.below b2
  clear b2
  clear hc0 hc1 hc2 hc3 hc4 hc5 hc6 hc7 hc8 hc9 hc10 hc11 hc12 hp0 hp1 hp2 hp3 hp4 hp5 hp6 hp7 hp8
  obtain ⟨hc0, hc1, hc2, hc3, hc4, hc5, hc6, hc7, hc8, hc9, hc10, hc11, hc12⟩ := c13 X.bc
  obtain ⟨hp0, hp1, hp2, hp3, hp4, hp5, hp6, hp7, hp8⟩ := p9 X.bp
  go_wp2_with fail
  refine (routput_any c y _ (HFY.out.1.at X.bel)).mono ?_
  rintro r w14 ⟨rfl, b2⟩
  rw [ha5.out, ha8.out]
  replace X := X.below b2
  clear b2
  clear hc0 hc1 hc2 hc3 hc4 hc5 hc6 hc7 hc8 hc9 hc10 hc11 hc12 hp0 hp1 hp2 hp3 hp4 hp5 hp6 hp7 hp8
  obtain ⟨hc0, hc1, hc2, hc3, hc4, hc5, hc6, hc7, hc8, hc9, hc10, hc11, hc12⟩ := c13 X.bc
  obtain ⟨hp0, hp1, hp2, hp3, hp4, hp5, hp6, hp7, hp8⟩ := p9 X.bp
  go_wp2_with fail
  refine (rif_any c y _ (HFY.out.1.at X.bel)).mono ?_
  rintro r w15 ⟨rfl, b2⟩
  rw [ha6.out, ha8.out]
  replace X := X.below b2
  clear b2
  clear hc0 hc1 hc2 hc3 hc4 hc5 hc6 hc7 hc8 hc9 hc10 hc11 hc12 hp0 hp1 hp2 hp3 hp4 hp5 hp6 hp7 hp8
  obtain ⟨hc0, hc1, hc2, hc3, hc4, hc5, hc6, hc7, hc8, hc9, hc10, hc11, hc12⟩ := c13 X.bc
  obtain ⟨hp0, hp1, hp2, hp3, hp4, hp5, hp6, hp7, hp8⟩ := p9 X.bp
  go_wp2_with fail
  refine (rwhile_any c y _ (HFY.out.1.at X.bel)).mono ?_
  rintro r w16 ⟨rfl, b2⟩
  rw [ha7.out, ha8.out]
  replace X := X.below b2
  clear b2
  clear hc0 hc1 hc2 hc3 hc4 hc5 hc6 hc7 hc8 hc9 hc10 hc11 hc12 hp0 hp1 hp2 hp3 hp4 hp5 hp6 hp7 hp8
  have b4 := X.bel
  clear X ha1 ha2 ha3 ha4 ha5 ha6 ha7 ha8 HFX HFY
  go_wp2_with fail
  go_ret
  exact ⟨rfl, b4⟩
end Go.Proofs.YtkpomjdablopaabGreatDoor
