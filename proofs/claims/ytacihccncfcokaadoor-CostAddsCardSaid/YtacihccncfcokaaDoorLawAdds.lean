/- Walk: the law CostAdds. -/
import Derived.Test.YtacihccncfcokaaDoorAdP
namespace Go.Proofs.YtacihccncfcokaaDoor
open Go.RowKit Go.Sort
set_option linter.unusedVariables false

theorem code_ok {c : C} (h : c.ok = true) : c.code = 0 := by unfold C.code; rw [h]; rfl
theorem code_bad {c : C} (h : c.ok = false) : c.code = 3 := by unfold C.code; rw [h]; rfl
set_option maxRecDepth 100000 in
set_option maxHeartbeats 16000000 in
theorem adds_walk (c d : C) (x y : E) (s : Int) (w : World) (hcw : c.Wf) (hdw : d.Wf) (hx : E.In w w.heap.size x) (hy : E.In w w.heap.size y) (hs : inI s) (hT : Tb w.heap.size w) : Calls Tryd.prog 6 #[c.val, d.val, .agg (pcs x y s)] w fun r w' => r = .returned (.bool true) ∧ Below w.heap.size w w' := by
  have X := AdW.start w c d x y s 23 23 43
  go_enter Tryd.func6, Tryd.ntmps6
  go_upto_region 1 with (fail)
  revert X
  generalize ((w.alloc (.cells #[.int .i64 c.assign, .int .i64 c.branch, .int .i64 c.loop, .int .i64 c.call, .int .i64 c.output, .int .i64 c.release, .int .i64 c.load, .int .i64 c.index, .int .i64 c.arith, .int .i64 c.multiply, .int .i64 c.divide, .int .i64 c.compare, .int .i64 c.logic] 23)).alloc (.cells #[.int .i64 d.assign, .int .i64 d.branch, .int .i64 d.loop, .int .i64 d.call, .int .i64 d.output, .int .i64 d.release, .int .i64 d.load, .int .i64 d.index, .int .i64 d.arith, .int .i64 d.multiply, .int .i64 d.divide, .int .i64 d.compare, .int .i64 d.logic] 23)).alloc (.cells #[.int .i64 x.op, .int .i64 x.n, .string x.nm, .slice x.ad x.ks.length x.cap, .int .i64 y.op, .int .i64 y.n, .string y.nm, .slice y.ad y.ks.length y.cap, .int .i64 s] 43) = w1
  intro X
  go_wp2_with fail
  refine (known_ok _ (hT.at X.bel)).mono ?_
  rintro r w2 ⟨rfl, b2⟩
  replace X := X.below b2
  clear b2
  obtain ⟨hc0, hc1, hc2, hc3, hc4, hc5, hc6, hc7, hc8, hc9, hc10, hc11, hc12⟩ := c13 X.bc
  obtain ⟨hd0, hd1, hd2, hd3, hd4, hd5, hd6, hd7, hd8, hd9, hd10, hd11, hd12⟩ := c13 X.bd
  obtain ⟨hp0, hp1, hp2, hp3, hp4, hp5, hp6, hp7, hp8⟩ := p9 X.bp
  go_wp2_with fail
  refine (few_any x _ (hx.at X.bel)).mono ?_
  rintro r w3 ⟨rfl, b2⟩
  replace X := X.below b2
  clear b2
  clear hc0 hc1 hc2 hc3 hc4 hc5 hc6 hc7 hc8 hc9 hc10 hc11 hc12 hd0 hd1 hd2 hd3 hd4 hd5 hd6 hd7 hd8 hd9 hd10 hd11 hd12 hp0 hp1 hp2 hp3 hp4 hp5 hp6 hp7 hp8
  cases hfx : fewB x 300 with
  | false =>
    clear hfx
    have b4 := X.bel
    go_wp2_with fail
    go_ret
    exact ⟨rfl, b4⟩
  | true =>
  have HFX := Lib.hid (few_fit hx hfx)
  clear hfx
  obtain ⟨hc0, hc1, hc2, hc3, hc4, hc5, hc6, hc7, hc8, hc9, hc10, hc11, hc12⟩ := c13 X.bc
  obtain ⟨hd0, hd1, hd2, hd3, hd4, hd5, hd6, hd7, hd8, hd9, hd10, hd11, hd12⟩ := c13 X.bd
  obtain ⟨hp0, hp1, hp2, hp3, hp4, hp5, hp6, hp7, hp8⟩ := p9 X.bp
  go_wp2_with fail
  refine (few_any y _ (hy.at X.bel)).mono ?_
  rintro r w4 ⟨rfl, b2⟩
  replace X := X.below b2
  clear b2
  clear hc0 hc1 hc2 hc3 hc4 hc5 hc6 hc7 hc8 hc9 hc10 hc11 hc12 hd0 hd1 hd2 hd3 hd4 hd5 hd6 hd7 hd8 hd9 hd10 hd11 hd12 hp0 hp1 hp2 hp3 hp4 hp5 hp6 hp7 hp8
  cases hfy : fewB y 300 with
  | false =>
    clear hfy
    have b4 := X.bel
    go_wp2_with fail
    go_ret
    exact ⟨rfl, b4⟩
  | true =>
  have HFY := Lib.hid (few_fit hy hfy)
  clear hfy
  obtain ⟨hc0, hc1, hc2, hc3, hc4, hc5, hc6, hc7, hc8, hc9, hc10, hc11, hc12⟩ := c13 X.bc
  obtain ⟨hd0, hd1, hd2, hd3, hd4, hd5, hd6, hd7, hd8, hd9, hd10, hd11, hd12⟩ := c13 X.bd
  obtain ⟨hp0, hp1, hp2, hp3, hp4, hp5, hp6, hp7, hp8⟩ := p9 X.bp
  go_wp2_with fail
  refine (rcheck_any c _).mono ?_
  rintro r w5 ⟨rfl, b2⟩
  replace X := X.below b2
  clear b2
  clear hc0 hc1 hc2 hc3 hc4 hc5 hc6 hc7 hc8 hc9 hc10 hc11 hc12 hd0 hd1 hd2 hd3 hd4 hd5 hd6 hd7 hd8 hd9 hd10 hd11 hd12 hp0 hp1 hp2 hp3 hp4 hp5 hp6 hp7 hp8
  cases hc : c.ok with
  | false =>
    rw [code_bad hc]
    clear hc
    have b4 := X.bel
    go_wp2_with fail
    go_ret
    exact ⟨rfl, b4⟩
  | true =>
  rw [code_ok hc]
  have HC := Lib.hid hc
  clear hc
  obtain ⟨hc0, hc1, hc2, hc3, hc4, hc5, hc6, hc7, hc8, hc9, hc10, hc11, hc12⟩ := c13 X.bc
  obtain ⟨hd0, hd1, hd2, hd3, hd4, hd5, hd6, hd7, hd8, hd9, hd10, hd11, hd12⟩ := c13 X.bd
  obtain ⟨hp0, hp1, hp2, hp3, hp4, hp5, hp6, hp7, hp8⟩ := p9 X.bp
  go_wp2_with fail
  refine (rcheck_any d _).mono ?_
  rintro r w6 ⟨rfl, b2⟩
  replace X := X.below b2
  clear b2
  clear hc0 hc1 hc2 hc3 hc4 hc5 hc6 hc7 hc8 hc9 hc10 hc11 hc12 hd0 hd1 hd2 hd3 hd4 hd5 hd6 hd7 hd8 hd9 hd10 hd11 hd12 hp0 hp1 hp2 hp3 hp4 hp5 hp6 hp7 hp8
  cases hd : d.ok with
  | false =>
    rw [code_bad hd]
    clear hd
    have b4 := X.bel
    go_wp2_with fail
    go_ret
    exact ⟨rfl, b4⟩
  | true =>
  rw [code_ok hd]
  have HD := Lib.hid hd
  clear hd
  have SU : ∀ W : World, Calls Tryd.prog 23 #[c.val, d.val] W fun r w' => r = .returned ((C.add c d).val) ∧ Below W.heap.size W w' := fun W => csum_any c d HC.out HD.out W
  obtain ⟨S, hS⟩ : ∃ S, Hid (C.add c d = S) := ⟨_, Lib.hid rfl⟩
  rw [hS.out] at SU
  have HSU := Lib.hid SU
  clear SU
  obtain ⟨hc0, hc1, hc2, hc3, hc4, hc5, hc6, hc7, hc8, hc9, hc10, hc11, hc12⟩ := c13 X.bc
  obtain ⟨hd0, hd1, hd2, hd3, hd4, hd5, hd6, hd7, hd8, hd9, hd10, hd11, hd12⟩ := c13 X.bd
  obtain ⟨hp0, hp1, hp2, hp3, hp4, hp5, hp6, hp7, hp8⟩ := p9 X.bp
  go_wp2_with fail
  refine (HSU.out _).mono ?_
  rintro r w7 ⟨rfl, b2⟩
  replace X := X.below b2
  clear b2
  clear hc0 hc1 hc2 hc3 hc4 hc5 hc6 hc7 hc8 hc9 hc10 hc11 hc12 hd0 hd1 hd2 hd3 hd4 hd5 hd6 hd7 hd8 hd9 hd10 hd11 hd12 hp0 hp1 hp2 hp3 hp4 hp5 hp6 hp7 hp8
  obtain ⟨hc0, hc1, hc2, hc3, hc4, hc5, hc6, hc7, hc8, hc9, hc10, hc11, hc12⟩ := c13 X.bc
  obtain ⟨hd0, hd1, hd2, hd3, hd4, hd5, hd6, hd7, hd8, hd9, hd10, hd11, hd12⟩ := c13 X.bd
  obtain ⟨hp0, hp1, hp2, hp3, hp4, hp5, hp6, hp7, hp8⟩ := p9 X.bp
  go_wp2_with fail
  refine (rcheck_any S _).mono ?_
  rintro r w8 ⟨rfl, b2⟩
  replace X := X.below b2
  clear b2
  clear hc0 hc1 hc2 hc3 hc4 hc5 hc6 hc7 hc8 hc9 hc10 hc11 hc12 hd0 hd1 hd2 hd3 hd4 hd5 hd6 hd7 hd8 hd9 hd10 hd11 hd12 hp0 hp1 hp2 hp3 hp4 hp5 hp6 hp7 hp8
  cases hk : S.ok with
  | false =>
    rw [code_bad hk]
    clear hk
    have b4 := X.bel
    go_wp2_with fail
    go_ret
    exact ⟨rfl, b4⟩
  | true =>
  rw [code_ok hk]
  have HK := Lib.hid (show (C.add c d).ok = true by rw [hS.out]; exact hk)
  clear hk
  have M1 := Lib.hid (show seN S x y s = seN c x y s + seN d x y s by rw [← hS.out]; exact seN_add HC.out HD.out HK.out x y s)
  have M2 := Lib.hid (show moN S.branch S y = moN c.branch c y + moN d.branch d y by rw [← hS.out]; exact moN_add HC.out HD.out HK.out y)
  have M3 := Lib.hid (show seK d x y s = seK c x y s ∧ seK S x y s = seK c x y s by rw [← hS.out]; exact ⟨seK_same HD.out HC.out x y s, seK_same HK.out HC.out x y s⟩)
  have B1 := seN_bd (c := c) (p := x) (v := y) (s := s)
  have B2 := seN_bd (c := d) (p := x) (v := y) (s := s)
  have B3 := moN_bd (c := c) (e := y)
  have B4 := moN_bd (c := d) (e := y)
  have C1 : ∀ W : World, Below w.heap.size w W → Calls Tryd.prog 24 #[c.val, x.val, y.val, .int .i64 s] W fun r w' => r = .returned (.tuple #[.int .i64 (seN c x y s), .int .i64 (seK c x y s)]) ∧ Below W.heap.size W w' := fun W hW => cset_any c x y s W (HFX.out.1.good.at hW) (HFY.out.1.good.at hW) (hT.at hW)
  have C2 : ∀ W : World, Below w.heap.size w W → Calls Tryd.prog 24 #[d.val, x.val, y.val, .int .i64 s] W fun r w' => r = .returned (.tuple #[.int .i64 (seN d x y s), .int .i64 (seK c x y s)]) ∧ Below W.heap.size W w' := fun W hW => by
    rw [← M3.out.1]; exact cset_any d x y s W (HFX.out.1.good.at hW) (HFY.out.1.good.at hW) (hT.at hW)
  have C3 : ∀ W : World, Below w.heap.size w W → Calls Tryd.prog 24 #[S.val, x.val, y.val, .int .i64 s] W fun r w' => r = .returned (.tuple #[.int .i64 (seN c x y s + seN d x y s), .int .i64 (seK c x y s)]) ∧ Below W.heap.size W w' := fun W hW => by
    rw [← M3.out.2, ← M1.out]; exact cset_any S x y s W (HFX.out.1.good.at hW) (HFY.out.1.good.at hW) (hT.at hW)
  have I1 : ∀ W : World, Below w.heap.size w W → Calls Tryd.prog 25 #[c.val, y.val] W fun r w' => r = .returned (.tuple #[.int .i64 (moN c.branch c y), .int .i64 (ckC c [y])]) ∧ Below W.heap.size W w' := fun W hW => cif_any c y W (HFY.out.1.good.at hW) (hT.at hW)
  have I2 : ∀ W : World, Below w.heap.size w W → Calls Tryd.prog 25 #[d.val, y.val] W fun r w' => r = .returned (.tuple #[.int .i64 (moN d.branch d y), .int .i64 (ckC d [y])]) ∧ Below W.heap.size W w' := fun W hW => cif_any d y W (HFY.out.1.good.at hW) (hT.at hW)
  have I3 : ∀ W : World, Below w.heap.size w W → Calls Tryd.prog 25 #[S.val, y.val] W fun r w' => r = .returned (.tuple #[.int .i64 (moN c.branch c y + moN d.branch d y), .int .i64 (ckC S [y])]) ∧ Below W.heap.size W w' := fun W hW => by
    rw [← M2.out]; exact cif_any S y W (HFY.out.1.good.at hW) (hT.at hW)
  clear M1 M2 M3 HK hS
  revert B1 B2 B3 B4 C1 C2 C3 I1 I2 I3
  generalize seN c x y s = a
  generalize seN d x y s = b
  generalize seK c x y s = K
  generalize moN c.branch c y = p
  generalize moN d.branch d y = q
  generalize ckC c [y] = l1
  generalize ckC d [y] = l2
  generalize ckC S [y] = l3
  intro B1 B2 B3 B4 C1 C2 C3 I1 I2 I3
  have HC1 := Lib.hid C1
  have HC2 := Lib.hid C2
  have HC3 := Lib.hid C3
  have HI1 := Lib.hid I1
  have HI2 := Lib.hid I2
  have HI3 := Lib.hid I3
  obtain ⟨n, hn⟩ : ∃ n, Hid (a + b = n) := ⟨_, Lib.hid rfl⟩
  obtain ⟨m, hm⟩ : ∃ m, Hid (p + q = m) := ⟨_, Lib.hid rfl⟩
  have hw1 : IntKind.i64.wrap (a + b) = n := by rw [← hn.out]; exact IntWalk.i64_in _ (by omega)
  have hw2 : IntKind.i64.wrap (p + q) = m := by rw [← hm.out]; exact IntWalk.i64_in _ (by omega)
  have hge : a ≤ n := by rw [← hn.out]; omega
  rw [hn.out] at HC3
  rw [hm.out] at HI3
  clear C1 C2 C3 I1 I2 I3 B1 B2 B3 B4 hn hm
  obtain ⟨hc0, hc1, hc2, hc3, hc4, hc5, hc6, hc7, hc8, hc9, hc10, hc11, hc12⟩ := c13 X.bc
  obtain ⟨hd0, hd1, hd2, hd3, hd4, hd5, hd6, hd7, hd8, hd9, hd10, hd11, hd12⟩ := c13 X.bd
  obtain ⟨hp0, hp1, hp2, hp3, hp4, hp5, hp6, hp7, hp8⟩ := p9 X.bp
  go_wp2_with fail
  refine (HC1.out _ X.bel).mono ?_
  rintro r w9 ⟨rfl, b2⟩
  replace X := X.below b2
  clear b2
  clear hc0 hc1 hc2 hc3 hc4 hc5 hc6 hc7 hc8 hc9 hc10 hc11 hc12 hd0 hd1 hd2 hd3 hd4 hd5 hd6 hd7 hd8 hd9 hd10 hd11 hd12 hp0 hp1 hp2 hp3 hp4 hp5 hp6 hp7 hp8
  obtain ⟨hc0, hc1, hc2, hc3, hc4, hc5, hc6, hc7, hc8, hc9, hc10, hc11, hc12⟩ := c13 X.bc
  obtain ⟨hd0, hd1, hd2, hd3, hd4, hd5, hd6, hd7, hd8, hd9, hd10, hd11, hd12⟩ := c13 X.bd
  obtain ⟨hp0, hp1, hp2, hp3, hp4, hp5, hp6, hp7, hp8⟩ := p9 X.bp
  go_wp2_with fail
  refine (HC2.out _ X.bel).mono ?_
  rintro r wa ⟨rfl, b2⟩
  replace X := X.below b2
  clear b2
  clear hc0 hc1 hc2 hc3 hc4 hc5 hc6 hc7 hc8 hc9 hc10 hc11 hc12 hd0 hd1 hd2 hd3 hd4 hd5 hd6 hd7 hd8 hd9 hd10 hd11 hd12 hp0 hp1 hp2 hp3 hp4 hp5 hp6 hp7 hp8
  obtain ⟨hc0, hc1, hc2, hc3, hc4, hc5, hc6, hc7, hc8, hc9, hc10, hc11, hc12⟩ := c13 X.bc
  obtain ⟨hd0, hd1, hd2, hd3, hd4, hd5, hd6, hd7, hd8, hd9, hd10, hd11, hd12⟩ := c13 X.bd
  obtain ⟨hp0, hp1, hp2, hp3, hp4, hp5, hp6, hp7, hp8⟩ := p9 X.bp
  go_upto_region 7 with (fail)
  have kc0 := cell_regrown hc0
  have kd0 := cell_regrown hd0
  have kc1 := cell_regrown hc1
  have kd1 := cell_regrown hd1
  have kc2 := cell_regrown hc2
  have kd2 := cell_regrown hd2
  have kc3 := cell_regrown hc3
  have kd3 := cell_regrown hd3
  have kc4 := cell_regrown hc4
  have kd4 := cell_regrown hd4
  have kc5 := cell_regrown hc5
  have kd5 := cell_regrown hd5
  have kc6 := cell_regrown hc6
  have kd6 := cell_regrown hd6
  have kc7 := cell_regrown hc7
  have kd7 := cell_regrown hd7
  have kc8 := cell_regrown hc8
  have kd8 := cell_regrown hd8
  have kc9 := cell_regrown hc9
  have kd9 := cell_regrown hd9
  have kc10 := cell_regrown hc10
  have kd10 := cell_regrown hd10
  have kc11 := cell_regrown hc11
  have kd11 := cell_regrown hd11
  have kc12 := cell_regrown hc12
  have kd12 := cell_regrown hd12
  have kp0 := cell_regrown hp0
  have kp1 := cell_regrown hp1
  have kp2 := cell_regrown hp2
  have kp3 := cell_regrown hp3
  have kp4 := cell_regrown hp4
  have kp5 := cell_regrown hp5
  have kp6 := cell_regrown hp6
  have kp7 := cell_regrown hp7
  have kp8 := cell_regrown hp8
  clear hc0 hc1 hc2 hc3 hc4 hc5 hc6 hc7 hc8 hc9 hc10 hc11 hc12 hd0 hd1 hd2 hd3 hd4 hd5 hd6 hd7 hd8 hd9 hd10 hd11 hd12 hp0 hp1 hp2 hp3 hp4 hp5 hp6 hp7 hp8
  have R1 := Lib.hid (show ∀ dd os, Calls Tryd.prog 23 #[c.val, d.val] (grow (redrawn wa dd) os) fun r w'' => r = .returned S.val ∧ ∃ q : Regrown, w'' = grow (redrawn wa q.d) q.os from fun dd os => Calls.regrown_of (HSU.out _))
  have R2 := Lib.hid (show ∀ dd os, Calls Tryd.prog 24 #[S.val, x.val, y.val, .int .i64 s] (grow (redrawn wa dd) os) fun r w'' => r = .returned (.tuple #[.int .i64 n, .int .i64 K]) ∧ ∃ q : Regrown, w'' = grow (redrawn wa q.d) q.os from fun dd os => Calls.regrown_of (HC3.out _ (bTrans X.bel (below_regrown wa dd os))))
  refine wp_region_quiet_below (by kernel_rfl) (by kernel_rfl) ?_
  repeat (quiet_step ((first | (go_at_call 23; exact R1.out _ _) | (go_at_call 24; exact R2.out _ _))))
  refine wpQuiet_nil ?_
  intro _ hw'
  obtain ⟨⟨dq, osq⟩, hw''⟩ := hw'
  subst hw''
  replace X := X.below (below_regrown wa dq osq)
  clear R1 R2
  clear kc0 kd0 kc1 kd1 kc2 kd2 kc3 kd3 kc4 kd4 kc5 kd5 kc6 kd6 kc7 kd7 kc8 kd8 kc9 kd9 kc10 kd10 kc11 kd11 kc12 kd12 kp0 kp1 kp2 kp3 kp4 kp5 kp6 kp7 kp8
  revert X
  generalize grow (redrawn wa dq) osq = wb
  intro X
  obtain ⟨hc0, hc1, hc2, hc3, hc4, hc5, hc6, hc7, hc8, hc9, hc10, hc11, hc12⟩ := c13 X.bc
  obtain ⟨hd0, hd1, hd2, hd3, hd4, hd5, hd6, hd7, hd8, hd9, hd10, hd11, hd12⟩ := c13 X.bd
  obtain ⟨hp0, hp1, hp2, hp3, hp4, hp5, hp6, hp7, hp8⟩ := p9 X.bp
  go_wp2_with fail
  refine (HI1.out _ X.bel).mono ?_
  rintro r we ⟨rfl, b2⟩
  replace X := X.below b2
  clear b2
  clear hc0 hc1 hc2 hc3 hc4 hc5 hc6 hc7 hc8 hc9 hc10 hc11 hc12 hd0 hd1 hd2 hd3 hd4 hd5 hd6 hd7 hd8 hd9 hd10 hd11 hd12 hp0 hp1 hp2 hp3 hp4 hp5 hp6 hp7 hp8
  obtain ⟨hc0, hc1, hc2, hc3, hc4, hc5, hc6, hc7, hc8, hc9, hc10, hc11, hc12⟩ := c13 X.bc
  obtain ⟨hd0, hd1, hd2, hd3, hd4, hd5, hd6, hd7, hd8, hd9, hd10, hd11, hd12⟩ := c13 X.bd
  obtain ⟨hp0, hp1, hp2, hp3, hp4, hp5, hp6, hp7, hp8⟩ := p9 X.bp
  go_wp2_with fail
  refine (HI2.out _ X.bel).mono ?_
  rintro r wf ⟨rfl, b2⟩
  replace X := X.below b2
  clear b2
  clear hc0 hc1 hc2 hc3 hc4 hc5 hc6 hc7 hc8 hc9 hc10 hc11 hc12 hd0 hd1 hd2 hd3 hd4 hd5 hd6 hd7 hd8 hd9 hd10 hd11 hd12 hp0 hp1 hp2 hp3 hp4 hp5 hp6 hp7 hp8
  obtain ⟨hc0, hc1, hc2, hc3, hc4, hc5, hc6, hc7, hc8, hc9, hc10, hc11, hc12⟩ := c13 X.bc
  obtain ⟨hd0, hd1, hd2, hd3, hd4, hd5, hd6, hd7, hd8, hd9, hd10, hd11, hd12⟩ := c13 X.bd
  obtain ⟨hp0, hp1, hp2, hp3, hp4, hp5, hp6, hp7, hp8⟩ := p9 X.bp
  go_upto_region 10 with (fail)
  have kc0 := cell_regrown hc0
  have kd0 := cell_regrown hd0
  have kc1 := cell_regrown hc1
  have kd1 := cell_regrown hd1
  have kc2 := cell_regrown hc2
  have kd2 := cell_regrown hd2
  have kc3 := cell_regrown hc3
  have kd3 := cell_regrown hd3
  have kc4 := cell_regrown hc4
  have kd4 := cell_regrown hd4
  have kc5 := cell_regrown hc5
  have kd5 := cell_regrown hd5
  have kc6 := cell_regrown hc6
  have kd6 := cell_regrown hd6
  have kc7 := cell_regrown hc7
  have kd7 := cell_regrown hd7
  have kc8 := cell_regrown hc8
  have kd8 := cell_regrown hd8
  have kc9 := cell_regrown hc9
  have kd9 := cell_regrown hd9
  have kc10 := cell_regrown hc10
  have kd10 := cell_regrown hd10
  have kc11 := cell_regrown hc11
  have kd11 := cell_regrown hd11
  have kc12 := cell_regrown hc12
  have kd12 := cell_regrown hd12
  have kp0 := cell_regrown hp0
  have kp1 := cell_regrown hp1
  have kp2 := cell_regrown hp2
  have kp3 := cell_regrown hp3
  have kp4 := cell_regrown hp4
  have kp5 := cell_regrown hp5
  have kp6 := cell_regrown hp6
  have kp7 := cell_regrown hp7
  have kp8 := cell_regrown hp8
  clear hc0 hc1 hc2 hc3 hc4 hc5 hc6 hc7 hc8 hc9 hc10 hc11 hc12 hd0 hd1 hd2 hd3 hd4 hd5 hd6 hd7 hd8 hd9 hd10 hd11 hd12 hp0 hp1 hp2 hp3 hp4 hp5 hp6 hp7 hp8
  have R1 := Lib.hid (show ∀ dd os, Calls Tryd.prog 23 #[c.val, d.val] (grow (redrawn wf dd) os) fun r w'' => r = .returned S.val ∧ ∃ q : Regrown, w'' = grow (redrawn wf q.d) q.os from fun dd os => Calls.regrown_of (HSU.out _))
  have R2 := Lib.hid (show ∀ dd os, Calls Tryd.prog 25 #[S.val, y.val] (grow (redrawn wf dd) os) fun r w'' => r = .returned (.tuple #[.int .i64 m, .int .i64 l3]) ∧ ∃ q : Regrown, w'' = grow (redrawn wf q.d) q.os from fun dd os => Calls.regrown_of (HI3.out _ (bTrans X.bel (below_regrown wf dd os))))
  refine wp_region_quiet_below (by kernel_rfl) (by kernel_rfl) ?_
  repeat (quiet_step ((first | (go_at_call 23; exact R1.out _ _) | (go_at_call 25; exact R2.out _ _))))
  refine wpQuiet_nil ?_
  intro _ hw'
  obtain ⟨⟨dr, osr⟩, hw''⟩ := hw'
  subst hw''
  have b4 := bTrans X.bel (below_regrown wf dr osr)
  clear R1 R2 X
  clear kc0 kd0 kc1 kd1 kc2 kd2 kc3 kd3 kc4 kd4 kc5 kd5 kc6 kd6 kc7 kd7 kc8 kd8 kc9 kd9 kc10 kd10 kc11 kd11 kc12 kd12 kp0 kp1 kp2 kp3 kp4 kp5 kp6 kp7 kp8
  by_cases hK : K = 0
  · subst hK
    go_wp2_with fail
    go_ret
    exact ⟨rfl, b4⟩
  · have hne : (K != 0) = true := by simpa using hK
    clear hK
    go_wp2_with fail
    go_ret
    exact ⟨rfl, b4⟩
end Go.Proofs.YtacihccncfcokaaDoor
