/- Walk: Set of package cost. -/
import Derived.Test.YtkpomjdablopaabGreatDoorSt
import Derived.Test.YtkpomjdablopaabGreatDoorEn
import Derived.Test.YtkpomjdablopaabGreatDoorKn
namespace Go.Proofs.YtkpomjdablopaabGreatDoor
open Go.RowKit Go.Sort
set_option linter.unusedVariables false

theorem orL_three {a b d : Int} (h : orL [a, b, d] = 0) : a = 0 ∧ b = 0 ∧ d = 0 := by
  unfold orL orL orL orL at h
  by_cases ha : a = 0
  · rw [if_pos ha] at h
    by_cases hb : b = 0
    · rw [if_pos hb] at h
      by_cases hd : d = 0
      · exact ⟨ha, hb, hd⟩
      · rw [if_neg hd] at h; exact absurd h hd
    · rw [if_neg hb] at h; exact absurd h hb
  · rw [if_neg ha] at h; exact absurd h ha
theorem ckC_two {c : C} {p v : E} (h : ckC c [p, v] = 0) : c.ok = true ∧ E.Ok nmB p ∧ E.Ok nmB v := by
  have hc := ckC_ok h
  unfold ckC at h
  rw [hc] at h
  have h2 : orL ([p, v].map (E.chk nmB)) = 0 := h
  exact ⟨hc, E.chk_ok.1 (orL_all h2 p (by simp)), E.chk_ok.1 (orL_all h2 v (by simp))⟩
theorem len1 (a : Int) : [a].length ≤ 1000000 := by simp
theorem SeW.S {w w' : World} {c : C} {p v : E} (h : SeW w w' c p v) : w'.cell? ⟨w.heap.size, 0, none⟩ = some (.int .i64 c.assign) ∧ w'.cell? ⟨w.heap.size, 1, none⟩ = some (.int .i64 c.branch) ∧ w'.cell? ⟨w.heap.size, 2, none⟩ = some (.int .i64 c.loop) ∧ w'.cell? ⟨w.heap.size, 3, none⟩ = some (.int .i64 c.call) ∧ w'.cell? ⟨w.heap.size, 4, none⟩ = some (.int .i64 c.output) ∧ w'.cell? ⟨w.heap.size, 5, none⟩ = some (.int .i64 c.release) ∧ w'.cell? ⟨w.heap.size, 6, none⟩ = some (.int .i64 c.load) ∧ w'.cell? ⟨w.heap.size, 7, none⟩ = some (.int .i64 c.index) ∧ w'.cell? ⟨w.heap.size, 8, none⟩ = some (.int .i64 c.arith) ∧ w'.cell? ⟨w.heap.size, 9, none⟩ = some (.int .i64 c.multiply) ∧ w'.cell? ⟨w.heap.size, 10, none⟩ = some (.int .i64 c.divide) ∧ w'.cell? ⟨w.heap.size, 11, none⟩ = some (.int .i64 c.compare) ∧ w'.cell? ⟨w.heap.size, 12, none⟩ = some (.int .i64 c.logic) ∧ w'.cell? ⟨w.heap.size + 1, 0, none⟩ = some (.int .i64 p.op) ∧ w'.cell? ⟨w.heap.size + 1, 1, none⟩ = some (.int .i64 p.n) ∧ w'.cell? ⟨w.heap.size + 1, 2, none⟩ = some (.string p.nm) ∧ w'.cell? ⟨w.heap.size + 1, 3, none⟩ = some (.slice p.ad p.ks.length p.cap) ∧ w'.cell? ⟨w.heap.size + 2, 0, none⟩ = some (.int .i64 v.op) ∧ w'.cell? ⟨w.heap.size + 2, 1, none⟩ = some (.int .i64 v.n) ∧ w'.cell? ⟨w.heap.size + 2, 2, none⟩ = some (.string v.nm) ∧ w'.cell? ⟨w.heap.size + 2, 3, none⟩ = some (.slice v.ad v.ks.length v.cap) := by
  obtain ⟨h0, h1, h2, h3, h4, h5, h6, h7, h8, h9, h10, h11, h12⟩ := c13 h.bc
  obtain ⟨e0, e1, e2, e3⟩ := e4 h.bp
  obtain ⟨f0, f1, f2, f3⟩ := e4 h.bv
  exact ⟨h0, h1, h2, h3, h4, h5, h6, h7, h8, h9, h10, h11, h12, e0, e1, e2, e3, f0, f1, f2, f3⟩
set_option maxRecDepth 100000 in
set_option maxHeartbeats 4000000 in
theorem cset_any (c : C) (p v : E) (s : Int) (w : World) (hp : Good w p) (hv : Good w v) (hT : Tb w.heap.size w) : Calls Tryz.prog 6 #[c.val, p.val, v.val, .int .i64 s] w fun r w' => r = .returned (.tuple #[.int .i64 (seN c p v s), .int .i64 (seK c p v s)]) ∧ Below w.heap.size w w' := by
  obtain ⟨z, hz⟩ : ∃ z, Hid (seK c p v s = z) := ⟨_, Lib.hid rfl⟩
  obtain ⟨n, hn⟩ : ∃ n, Hid (seN c p v s = n) := ⟨_, Lib.hid rfl⟩
  obtain ⟨k1, hk1⟩ : ∃ k1, Hid (ckC c [p, v] = k1) := ⟨_, Lib.hid rfl⟩
  obtain ⟨k2, hk2⟩ : ∃ k2, Hid (plC p = k2) := ⟨_, Lib.hid rfl⟩
  obtain ⟨k3, hk3⟩ : ∃ k3, Hid (scC [s] = k3) := ⟨_, Lib.hid rfl⟩
  have HZ : Hid (orL [k1, k2, k3] = z) := Lib.hid (by rw [← hz.out, ← hk1.out, ← hk2.out, ← hk3.out]; rfl)
  rw [hz.out, hn.out]
  have X := SeW.start w c p v 23 27 27
  go_enter Tryz.func6, Tryz.ntmps6
  go_upto_region 1 with (fail)
  revert X
  generalize ((w.alloc (.cells #[.int .i64 c.assign, .int .i64 c.branch, .int .i64 c.loop, .int .i64 c.call, .int .i64 c.output, .int .i64 c.release, .int .i64 c.load, .int .i64 c.index, .int .i64 c.arith, .int .i64 c.multiply, .int .i64 c.divide, .int .i64 c.compare, .int .i64 c.logic] 23)).alloc (.cells #[.int .i64 p.op, .int .i64 p.n, .string p.nm, .slice p.ad p.ks.length p.cap] 27)).alloc (.cells #[.int .i64 v.op, .int .i64 v.n, .string v.nm, .slice v.ad v.ks.length v.cap] 27) = w1
  intro X
  have X0 := X
  replace X := X.drew
  have Q1 := Lib.hid (show ∀ (W : World) (b : Nat), Below w.heap.size w W → Blk W b (pr2 p v) → Calls Tryz.prog 24 #[c.val, .slice (some ⟨b, 0, none⟩) 2 2] W fun r w' => r = .returned (.int .i64 k1) ∧ Below W.heap.size W w' from
    fun W b hW hb => by rw [← hk1.out]; exact ccheck_any c [p, v] (some ⟨b, 0, none⟩) 2 W (okl2 hp hv hW hb) (hT.at hW))
  have HP := Lib.hid (show ∀ W : World, Calls Tryz.prog 25 #[p.val] W fun r w' => r = .returned (.int .i64 k2) ∧ Below W.heap.size W w' from fun W => by rw [← hk2.out]; exact cplace_any p W)
  have Q3 := Lib.hid (show ∀ (W : World) (b : Nat), Blk W b #[.int .i64 s] → Calls Tryz.prog 26 #[.slice (some ⟨b, 0, none⟩) 1 1] W fun r w' => r = .returned (.int .i64 k3) ∧ W = w' from
    fun W b hb => by rw [← hk3.out]; exact scalars_any [s] (some ⟨b, 0, none⟩) 1 W (zs1 hb) (len1 s))
  have Q4 := Lib.hid (show ∀ (W : World) (b : Nat), Blk W b #[.int .i64 k1, .int .i64 k2, .int .i64 k3] → Calls Tryz.prog 23 #[.slice (some ⟨b, 0, none⟩) 3 3] W fun r w' => r = .returned (.int .i64 z) ∧ W = w' from
    fun W b hb => by rw [← HZ.out]; exact or_any [k1, k2, k3] (some ⟨b, 0, none⟩) 3 W (zs3 hb) (len3 k1 k2 k3))
  have XP : SeW w (w1.alloc (.cells (pr2 p v) 27)).drew c p v := (X0.below (al1 w1 (.cells (pr2 p v) 27))).drew
  have XS : SeW w (w1.alloc (.cells #[.int .i64 s] 3)).drew c p v := (X0.below (al1 w1 (.cells #[.int .i64 s] 3))).drew
  have XSP : SeW w ((w1.alloc (.cells #[.int .i64 s] 3)).alloc (.cells (pr2 p v) 27)).drew c p v := ((X0.below (al1 w1 (.cells #[.int .i64 s] 3))).below (al1 _ (.cells (pr2 p v) 27))).drew
  have XPS : SeW w ((w1.alloc (.cells (pr2 p v) 27)).alloc (.cells #[.int .i64 s] 3)).drew c p v := ((X0.below (al1 w1 (.cells (pr2 p v) 27))).below (al1 _ (.cells #[.int .i64 s] 3))).drew
  have PB1 : Blk (w1.alloc (.cells (pr2 p v) 27)).drew w1.heap.size (pr2 p v) := (Blk.new_ _ _ _).drew
  have PB2 : Blk ((w1.alloc (.cells #[.int .i64 s] 3)).alloc (.cells (pr2 p v) 27)).drew (w1.heap.size + 1) (pr2 p v) := (Blk.new' (by simp)).drew
  have SB2 : Blk ((w1.alloc (.cells #[.int .i64 s] 3)).alloc (.cells (pr2 p v) 27)).drew w1.heap.size #[.int .i64 s] := ((Blk.new_ _ _ _).alloc _).drew
  have PB3 : Blk ((w1.alloc (.cells (pr2 p v) 27)).alloc (.cells #[.int .i64 s] 3)).drew w1.heap.size (pr2 p v) := ((Blk.new_ _ _ _).alloc _).drew
  have SB3 : Blk ((w1.alloc (.cells (pr2 p v) 27)).alloc (.cells #[.int .i64 s] 3)).drew (w1.heap.size + 1) #[.int .i64 s] := (Blk.new' (by simp)).drew
  go_cut [10] (fun s10 wx => s10 = .int .i64 z ∧ SeQ w c p v wx)
  case first =>
    go_region_held3 (fun w' => w'.cell? ⟨w.heap.size, 0, none⟩ = some (.int .i64 c.assign) ∧ w'.cell? ⟨w.heap.size, 1, none⟩ = some (.int .i64 c.branch) ∧ w'.cell? ⟨w.heap.size, 2, none⟩ = some (.int .i64 c.loop) ∧ w'.cell? ⟨w.heap.size, 3, none⟩ = some (.int .i64 c.call) ∧ w'.cell? ⟨w.heap.size, 4, none⟩ = some (.int .i64 c.output) ∧ w'.cell? ⟨w.heap.size, 5, none⟩ = some (.int .i64 c.release) ∧ w'.cell? ⟨w.heap.size, 6, none⟩ = some (.int .i64 c.load) ∧ w'.cell? ⟨w.heap.size, 7, none⟩ = some (.int .i64 c.index) ∧ w'.cell? ⟨w.heap.size, 8, none⟩ = some (.int .i64 c.arith) ∧ w'.cell? ⟨w.heap.size, 9, none⟩ = some (.int .i64 c.multiply) ∧ w'.cell? ⟨w.heap.size, 10, none⟩ = some (.int .i64 c.divide) ∧ w'.cell? ⟨w.heap.size, 11, none⟩ = some (.int .i64 c.compare) ∧ w'.cell? ⟨w.heap.size, 12, none⟩ = some (.int .i64 c.logic) ∧ w'.cell? ⟨w.heap.size + 1, 0, none⟩ = some (.int .i64 p.op) ∧ w'.cell? ⟨w.heap.size + 1, 1, none⟩ = some (.int .i64 p.n) ∧ w'.cell? ⟨w.heap.size + 1, 2, none⟩ = some (.string p.nm) ∧ w'.cell? ⟨w.heap.size + 1, 3, none⟩ = some (.slice p.ad p.ks.length p.cap) ∧ w'.cell? ⟨w.heap.size + 2, 0, none⟩ = some (.int .i64 v.op) ∧ w'.cell? ⟨w.heap.size + 2, 1, none⟩ = some (.int .i64 v.n) ∧ w'.cell? ⟨w.heap.size + 2, 2, none⟩ = some (.string v.nm) ∧ w'.cell? ⟨w.heap.size + 2, 3, none⟩ = some (.slice v.ad v.ks.length v.cap))
      (first | exact X.S | exact XP.S | exact XS.S | exact XSP.S | exact XPS.S | exact (X.below (al1 _ _)).S)
      (first
        | (go_at_call 24; ((with_reducible refine (Q1.out _ _ XP.bel PB1).mono ?_); rintro r w2 ⟨rfl, b2⟩); replace X := XP.below b2)
        | (go_at_call 24; ((with_reducible refine (Q1.out _ _ XSP.bel PB2).mono ?_); rintro r w2 ⟨rfl, b2⟩); replace X := XSP.below b2; have HS := SB2.below b2 SB2.lt)
        | (go_at_call 24; ((with_reducible refine (Q1.out _ _ XPS.bel PB3).mono ?_); rintro r w2 ⟨rfl, b2⟩); replace X := XPS.below b2; have HS := SB3.below b2 SB3.lt)
        | (go_at_call 25; refine (HP.out _).mono ?_; rintro r w3 ⟨rfl, b3⟩; replace X := X.below b3; (try replace HS := HS.below b3 HS.lt))
        | (go_at_call 25; refine (HP.out _).mono ?_; rintro r w3 ⟨rfl, b3⟩; have HS := (Blk.new_ w2 #[.int .i64 s] 3).below b3 (by simp); replace X := (X.below (al1 w2 (.cells #[.int .i64 s] 3))).below b3)
        | (go_at_call 26; ((with_reducible refine (Q3.out _ _ HS).mono ?_); rintro r w4 ⟨rfl, rfl⟩))
        | (go_at_call 26; ((with_reducible refine (Q3.out _ _ (Blk.new_ w3 #[.int .i64 s] 3)).mono ?_); rintro r w4 ⟨rfl, rfl⟩); replace X := X.below (al1 w3 (.cells #[.int .i64 s] 3)))
        | (go_at_call 23; refine (Q4.out _ _ (Blk.new' (by simp))).mono ?_; rintro r w5 ⟨rfl, rfl⟩; replace X := X.below (al1 _ (.cells #[.int .i64 k1, .int .i64 k2, .int .i64 k3] 32))))
    all_goals
      go_wp2_with fail
      go_meet
      exact ⟨rfl, X⟩
  case rest =>
    obtain ⟨rfl, hX⟩ := hcut
    have X : SeW w wc c p v := hX
    clear hX
    have b2 := X.bel
    by_cases h0 : z = 0
    case neg =>
      have hne : (z != 0) = true := by simpa using h0
      have HR : Hid (0 = n) := Lib.hid (by rw [← hn.out]; unfold seN; rw [if_neg (by rw [hz.out]; exact h0)])
      clear h0
      go_wp2_with fail
      go_ret2
      exact ⟨ret2 HR.out rfl, b2⟩
    case pos =>
    subst h0
    obtain ⟨e1, e2, e3⟩ := orL_three HZ.out
    rw [← hk1.out] at e1
    rw [← hk3.out] at e3
    obtain ⟨hc, op_, ov⟩ := ckC_two e1
    have hs := scC_all e3 (i := 0) (z := s) ⟨by simp, rfl⟩
    have HC := Lib.hid hc
    have hm := mul_bd (C.ok_get hc (x := c.assign) (by simp [C.list])) hs
    have hd := C.sum_bd hc p
    have hx := C.sum_bd hc v
    have hld := C.ok_get hc (x := c.load) (by simp [C.list])
    have hnp := op_.nodes
    have hnv := ov.nodes
    obtain ⟨m, hmv⟩ : ∃ m, Hid (c.assign * s = m) := ⟨_, Lib.hid rfl⟩
    obtain ⟨d, hdv⟩ : ∃ d, Hid (plN c p = d) := ⟨_, Lib.hid rfl⟩
    obtain ⟨x, hxv⟩ : ∃ x, Hid (v.sum c.opC = x) := ⟨_, Lib.hid rfl⟩
    have hdb : -100 ≤ d ∧ d ≤ 102400 := by rw [← hdv.out]; unfold plN; omega
    rw [hmv.out] at hm
    rw [hxv.out] at hx
    have HR : Hid (m + d + x = n) := Lib.hid (by rw [← hn.out]; unfold seN; rw [if_pos hz.out, hmv.out, hdv.out, hxv.out])
    have hw1 : IntKind.i64.wrap (c.assign * s) = m := by rw [hmv.out]; exact IntWalk.i64_in _ (by omega)
    have hw2 : IntKind.i64.wrap (m + d) = m + d := IntWalk.i64_in _ (by omega)
    have hw3 : IntKind.i64.wrap (m + d + x) = n := by rw [← HR.out]; exact IntWalk.i64_in _ (by omega)
    have hip := hp.hin
    have hiv := hv.hin
    clear hc op_ ov hs hm hd hx hld hdb e1 e2 e3 HZ Q1 HP Q3 Q4 hp hv hT
    go_upto_region 4 with (fail)
    obtain ⟨hc0, hc1, hc2, hc3, hc4, hc5, hc6, hc7, hc8, hc9, hc10, hc11, hc12⟩ := c13 X.bc
    obtain ⟨hp0, hp1, hp2, hp3⟩ := e4 X.bp
    obtain ⟨hv0, hv1, hv2, hv3⟩ := e4 X.bv
    have kc0 := cell_regrown hc0
    have kc1 := cell_regrown hc1
    have kc2 := cell_regrown hc2
    have kc3 := cell_regrown hc3
    have kc4 := cell_regrown hc4
    have kc5 := cell_regrown hc5
    have kc6 := cell_regrown hc6
    have kc7 := cell_regrown hc7
    have kc8 := cell_regrown hc8
    have kc9 := cell_regrown hc9
    have kc10 := cell_regrown hc10
    have kc11 := cell_regrown hc11
    have kc12 := cell_regrown hc12
    have kp0 := cell_regrown hp0
    have kv0 := cell_regrown hv0
    have kp1 := cell_regrown hp1
    have kv1 := cell_regrown hv1
    have kp2 := cell_regrown hp2
    have kv2 := cell_regrown hv2
    have kp3 := cell_regrown hp3
    have kv3 := cell_regrown hv3
    clear hc0 hc1 hc2 hc3 hc4 hc5 hc6 hc7 hc8 hc9 hc10 hc11 hc12 hp0 hp1 hp2 hp3 hv0 hv1 hv2 hv3
    have R1 := Lib.hid (show ∀ dd os, Calls Tryz.prog 27 #[c.val, p.val] (grow (redrawn wc dd) os) fun r w'' => r = .returned (.int .i64 d) ∧ ∃ q : Regrown, w'' = grow (redrawn wc q.d) q.os from
      fun dd os => Calls.regrown_of (by rw [← hdv.out]; exact placeCost_any c HC.out p _ (hip.at (bTrans X.bel (below_regrown wc dd os))) (by omega)))
    have R2 := Lib.hid (show ∀ dd os, Calls Tryz.prog 28 #[c.val, v.val] (grow (redrawn wc dd) os) fun r w'' => r = .returned (.int .i64 x) ∧ ∃ q : Regrown, w'' = grow (redrawn wc q.d) q.os from
      fun dd os => Calls.regrown_of (by rw [← hxv.out]; exact exprCost_any c HC.out v _ (hiv.at (bTrans X.bel (below_regrown wc dd os))) (by omega)))
    refine wp_region_quiet_below (by kernel_rfl) (by kernel_rfl) ?_
    repeat (quiet_step ((first | (go_at_call 27; exact R1.out _ _) | (go_at_call 28; exact R2.out _ _))))
    refine wpQuiet_nil ?_
    intro _ hw'
    obtain ⟨⟨dq, osq⟩, hw''⟩ := hw'
    subst hw''
    go_wp2_with fail
    go_ret2
    exact ⟨rfl, bTrans b2 (below_regrown wc dq osq)⟩
end Go.Proofs.YtkpomjdablopaabGreatDoor
