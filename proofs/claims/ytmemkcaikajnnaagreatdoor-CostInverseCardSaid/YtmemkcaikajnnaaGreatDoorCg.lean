/- Walks: Expr, placeCost, Place, more, If of package cost. -/
import Derived.Test.YtmemkcaikajnnaaGreatDoorCf
namespace Go.Proofs.YtmemkcaikajnnaaGreatDoor
open Go.RowKit Go.Sort
set_option linter.unusedVariables false

/-- a new block of expressions -/
theorem L_new (w : World) (l : List E) (T : TypeId) (vs : Array Value) (h : vs.toList = E.flat l) (hl : l.length ≤ 1000000) (hin : ∀ e ∈ l, E.In w w.heap.size e) :
    E.L (w.alloc (.cells vs T)) (w.alloc (.cells vs T)).heap.size (some ⟨w.heap.size, 0, none⟩) l :=
  ⟨by omega, ⟨fun _ => ⟨w.heap.size, 0, rfl, by simp, fun k u hu => by
    have hb := Blk.new_ w vs T
    rw [Nat.zero_add]
    refine hb.c k ?_
    rw [← h, Array.getElem?_toList] at hu
    exact hu⟩⟩, fun e he => (hin e he).at (al1 w _)⟩
/-- a tree that can be looked at -/
structure Good (w : World) (e : E) : Prop where
  hin : E.In w w.heap.size e
  big : e.any E.big = false
theorem Good.at {w w' : World} {e : E} (h : Good w e) (hb : Below w.heap.size w w') : Good w' e := ⟨h.hin.at hb, h.big⟩
theorem Okl.new1 (w : World) (e : E) (T : TypeId) (h : Good w e) : Okl (w.alloc (.cells e.box T)) (some ⟨w.heap.size, 0, none⟩) [e] :=
  ⟨L_new w [e] T _ rfl (by simp) (fun x hx => by simp at hx; subst hx; exact h.hin), fun x hx => by simp at hx; subst hx; exact h.big⟩
theorem ckC1 (c : C) (e : E) : ckC c [e] = if c.ok then E.chk nmB e else 3 := by
  unfold ckC
  cases c.ok with
  | false => rfl
  | true =>
    show orL [E.chk nmB e] = E.chk nmB e
    unfold orL orL
    split <;> simp_all
theorem ckC_zero {c : C} {e : E} (h : ckC c [e] = 0) : c.ok = true ∧ E.Ok nmB e := by
  rw [ckC1] at h
  cases hc : c.ok with
  | false => rw [hc] at h; simp at h
  | true => rw [hc] at h; exact ⟨rfl, E.chk_ok.1 h⟩
theorem ret2 {a b c d : Int} (h1 : a = b) (h2 : c = d) : Ending.returned (.tuple #[.int .i64 a, .int .i64 c]) = .returned (.tuple #[.int .i64 b, .int .i64 d]) := by rw [h1, h2]
/-- the cells of a model in a box -/
theorem c13 {w : World} {b : Nat} {c : C} (h : Blk w b c.box) : w.cell? ⟨b, 0, none⟩ = some (.int .i64 c.assign) ∧ w.cell? ⟨b, 1, none⟩ = some (.int .i64 c.branch) ∧ w.cell? ⟨b, 2, none⟩ = some (.int .i64 c.loop) ∧ w.cell? ⟨b, 3, none⟩ = some (.int .i64 c.call) ∧ w.cell? ⟨b, 4, none⟩ = some (.int .i64 c.output) ∧ w.cell? ⟨b, 5, none⟩ = some (.int .i64 c.release) ∧ w.cell? ⟨b, 6, none⟩ = some (.int .i64 c.load) ∧ w.cell? ⟨b, 7, none⟩ = some (.int .i64 c.index) ∧ w.cell? ⟨b, 8, none⟩ = some (.int .i64 c.arith) ∧ w.cell? ⟨b, 9, none⟩ = some (.int .i64 c.multiply) ∧ w.cell? ⟨b, 10, none⟩ = some (.int .i64 c.divide) ∧ w.cell? ⟨b, 11, none⟩ = some (.int .i64 c.compare) ∧ w.cell? ⟨b, 12, none⟩ = some (.int .i64 c.logic) :=
  ⟨h.c 0 rfl, h.c 1 rfl, h.c 2 rfl, h.c 3 rfl, h.c 4 rfl, h.c 5 rfl, h.c 6 rfl, h.c 7 rfl, h.c 8 rfl, h.c 9 rfl, h.c 10 rfl, h.c 11 rfl, h.c 12 rfl⟩
theorem e4 {w : World} {b : Nat} {e : E} (h : Blk w b e.box) : w.cell? ⟨b, 0, none⟩ = some (.int .i64 e.op) ∧ w.cell? ⟨b, 1, none⟩ = some (.int .i64 e.n) ∧ w.cell? ⟨b, 2, none⟩ = some (.string e.nm) ∧ w.cell? ⟨b, 3, none⟩ = some (.slice e.ad e.ks.length e.cap) :=
  ⟨h.c 0 rfl, h.c 1 rfl, h.c 2 rfl, h.c 3 rfl⟩
/-- the boxes of a model and an expression -/
structure CeW (w wr : World) (c : C) (e : E) : Prop where
  bc : Blk wr w.heap.size c.box
  be : Blk wr (w.heap.size + 1) e.box
  bel : Below w.heap.size w wr
theorem CeW.below {w wr w' : World} {c : C} {e : E} (h : CeW w wr c e) (hb : Below wr.heap.size wr w') : CeW w w' c e := ⟨h.bc.below hb h.bc.lt, h.be.below hb h.be.lt, bTrans h.bel hb⟩
theorem CeW.start (w : World) (c : C) (e : E) (T T' : TypeId) : CeW w ((w.alloc (.cells c.box T)).alloc (.cells e.box T')) c e :=
  ⟨(Blk.new_ _ _ _).alloc _, by
    have := Blk.new_ (w.alloc (.cells c.box T)) e.box T'
    rwa [World.size_alloc] at this, (al1 w _).alloc (by simp) _⟩
/-- what Expr returns -/
def exN (c : C) (e : E) : Int := if ckC c [e] = 0 then e.sum c.opC else 0

set_option maxRecDepth 100000 in
set_option maxHeartbeats 1000000 in
theorem cexpr_any (c : C) (e : E) (w : World) (h : Good w e) (hT : Tb w.heap.size w) : Calls Tryz.prog 17 #[c.val, e.val] w fun r w' => r = .returned (.tuple #[.int .i64 (exN c e), .int .i64 (ckC c [e])]) ∧ Below w.heap.size w w' := by
  obtain ⟨z, hz⟩ : ∃ z, Hid (ckC c [e] = z) := ⟨_, Lib.hid rfl⟩
  have ic : Blk ((w.alloc (.cells c.box 23)).alloc (.cells e.box 44)) w.heap.size c.box := (Blk.new_ _ _ _).alloc _
  have ie : Blk ((w.alloc (.cells c.box 23)).alloc (.cells e.box 44)) (w.heap.size + 1) e.box := by
    have := Blk.new_ (w.alloc (.cells c.box 23)) e.box 44
    rwa [World.size_alloc] at this
  have ib : Below w.heap.size w ((w.alloc (.cells c.box 23)).alloc (.cells e.box 44)) := (al1 w _).alloc (by simp) _
  rw [hz.out]
  go_enter Tryz.func17, Tryz.ntmps17
  go_upto_region 1 with (fail)
  revert ic ie ib
  generalize (w.alloc (.cells #[.int .i64 c.assign, .int .i64 c.branch, .int .i64 c.loop, .int .i64 c.call, .int .i64 c.output, .int .i64 c.release, .int .i64 c.load, .int .i64 c.index, .int .i64 c.arith, .int .i64 c.multiply, .int .i64 c.divide, .int .i64 c.compare, .int .i64 c.logic] 23)).alloc (.cells #[.int .i64 e.op, .int .i64 e.n, .string e.nm, .slice e.ad e.ks.length e.cap] 44) = w1
  intro ic ie ib
  have hc0 := ic.c 0 rfl
  have hc1 := ic.c 1 rfl
  have hc2 := ic.c 2 rfl
  have hc3 := ic.c 3 rfl
  have hc4 := ic.c 4 rfl
  have hc5 := ic.c 5 rfl
  have hc6 := ic.c 6 rfl
  have hc7 := ic.c 7 rfl
  have hc8 := ic.c 8 rfl
  have hc9 := ic.c 9 rfl
  have hc10 := ic.c 10 rfl
  have hc11 := ic.c 11 rfl
  have hc12 := ic.c 12 rfl
  have he0 := ie.c 0 rfl
  have he1 := ie.c 1 rfl
  have he2 := ie.c 2 rfl
  have he3 := ie.c 3 rfl
  have hsz := ie.lt
  go_wp2_with fail
  refine (ccheck_any c [e] (some ⟨_, 0, none⟩) 1 _ (Okl.new1 _ e 44 (h.at ib)) (hT.at (ib.alloc ib.size _))).mono ?_
  rintro r w2 ⟨rfl, b2⟩
  rw [hz.out]
  have jc := (ic.alloc (.cells e.box 44)).below b2 (by simp; omega)
  have je := (ie.alloc (.cells e.box 44)).below b2 (by simp; omega)
  have jb := bTrans (ib.alloc ib.size (.cells e.box 44)) b2
  clear hc0 hc1 hc2 hc3 hc4 hc5 hc6 hc7 hc8 hc9 hc10 hc11 hc12 he0 he1 he2 he3 ic ie ib b2
  by_cases h0 : z = 0
  · subst h0
    obtain ⟨ho, hk⟩ := ckC_zero hz.out
    have HR : Hid (exN c e = e.sum c.opC) := Lib.hid (by unfold exN; rw [if_pos hz.out])
    have hnod := hk.nodes
    have hin2 := h.hin.at jb
    have hc0 := jc.c 0 rfl
    have hc1 := jc.c 1 rfl
    have hc2 := jc.c 2 rfl
    have hc3 := jc.c 3 rfl
    have hc4 := jc.c 4 rfl
    have hc5 := jc.c 5 rfl
    have hc6 := jc.c 6 rfl
    have hc7 := jc.c 7 rfl
    have hc8 := jc.c 8 rfl
    have hc9 := jc.c 9 rfl
    have hc10 := jc.c 10 rfl
    have hc11 := jc.c 11 rfl
    have hc12 := jc.c 12 rfl
    have he0 := je.c 0 rfl
    have he1 := je.c 1 rfl
    have he2 := je.c 2 rfl
    have he3 := je.c 3 rfl
    have HO := Lib.hid ho
    clear hk ho
    go_wp2_with fail
    refine (exprCost_any c HO.out e _ hin2 (by omega)).mono ?_
    rintro r w3 ⟨rfl, b3⟩
    go_wp2_with fail
    go_ret2
    exact ⟨ret2 HR.out.symm rfl, bTrans jb b3⟩
  · have hne : (z != 0) = true := by simpa using h0
    have HR : Hid (exN c e = 0) := Lib.hid (by unfold exN; rw [if_neg (by rw [hz.out]; exact h0)])
    clear h0
    go_wp2_with fail
    go_ret2
    exact ⟨ret2 HR.out.symm rfl, jb⟩
/-- the cost of a place -/
def plN (c : C) (e : E) : Int := e.sum c.opC - c.load
set_option maxRecDepth 100000 in
set_option maxHeartbeats 1000000 in
theorem placeCost_any (c : C) (hc : c.ok = true) (e : E) (w : World) (hin : E.In w w.heap.size e) (hn : e.nodes ≤ 1000000) : Calls Tryz.prog 37 #[c.val, e.val] w fun r w' => r = .returned (.int .i64 (plN c e)) ∧ Below w.heap.size w w' := by
  have h1 := C.sum_bd hc e
  have h2 := C.ok_get hc (x := c.load) (by simp [C.list])
  obtain ⟨d, hd⟩ : ∃ d, Hid (plN c e = d) := ⟨_, Lib.hid rfl⟩
  obtain ⟨s, hs⟩ : ∃ s, Hid (e.sum c.opC = s) := ⟨_, Lib.hid rfl⟩
  rw [hs.out] at h1
  have hw : IntKind.i64.wrap (s - c.load) = d := by rw [← hd.out, IntWalk.i64_in _ (by omega)]; unfold plN; rw [hs.out]
  rw [hd.out]
  clear h1 h2
  have X := CeW.start w c e 23 44
  go_enter Tryz.func37, Tryz.ntmps37
  go_upto_region 1 with (fail)
  revert X
  generalize (w.alloc (.cells #[.int .i64 c.assign, .int .i64 c.branch, .int .i64 c.loop, .int .i64 c.call, .int .i64 c.output, .int .i64 c.release, .int .i64 c.load, .int .i64 c.index, .int .i64 c.arith, .int .i64 c.multiply, .int .i64 c.divide, .int .i64 c.compare, .int .i64 c.logic] 23)).alloc (.cells #[.int .i64 e.op, .int .i64 e.n, .string e.nm, .slice e.ad e.ks.length e.cap] 44) = w1
  intro X
  obtain ⟨hc0, hc1, hc2, hc3, hc4, hc5, hc6, hc7, hc8, hc9, hc10, hc11, hc12⟩ := c13 X.bc
  obtain ⟨he0, he1, he2, he3⟩ := e4 X.be
  have kc0 := cell_regrown hc0
  have kc1 := cell_regrown hc1
  have kc2 := cell_regrown hc2
  have kc3 := cell_regrown hc3
  have kc4 := cell_regrown hc4
  have kc5 := cell_regrown hc5
  have kc6 := cell_regrown hc6
  have kc7 := cell_regrown hc7
  have kc8 := cell_regrown hc8
  have kc9 := cell_regrown hc9
  have kc10 := cell_regrown hc10
  have kc11 := cell_regrown hc11
  have kc12 := cell_regrown hc12
  have ke0 := cell_regrown he0
  have ke1 := cell_regrown he1
  have ke2 := cell_regrown he2
  have ke3 := cell_regrown he3
  clear hc0 hc1 hc2 hc3 hc4 hc5 hc6 hc7 hc8 hc9 hc10 hc11 hc12 he0 he1 he2 he3
  have q1 : ∀ d os, Calls Tryz.prog 34 #[c.val, e.val] (grow (redrawn w1 d) os) fun r w'' => r = .returned (.int .i64 s) ∧ ∃ p : Regrown, w'' = grow (redrawn w1 p.d) p.os :=
    fun d os => Calls.regrown_of (by rw [← hs.out]; exact exprCost_any c hc e _ (hin.at (bTrans X.bel (below_regrown w1 d os))) hn)
  have Q1 := Lib.hid q1
  clear q1
  refine wp_region_quiet_below (by kernel_rfl) (by kernel_rfl) ?_
  repeat (quiet_step ((go_at_call 34; exact Q1.out _ _)))
  refine wpQuiet_nil ?_
  intro _ hw'
  obtain ⟨⟨dq, osq⟩, hw''⟩ := hw'
  subst hw''
  go_wp2_with fail
  go_ret
  exact ⟨rfl, bTrans X.bel (below_regrown w1 dq osq)⟩
/-- the cells that are read -/
theorem CeW.S {w w' : World} {c : C} {e : E} (h : CeW w w' c e) : w'.cell? ⟨w.heap.size, 0, none⟩ = some (.int .i64 c.assign) ∧ w'.cell? ⟨w.heap.size, 1, none⟩ = some (.int .i64 c.branch) ∧ w'.cell? ⟨w.heap.size, 2, none⟩ = some (.int .i64 c.loop) ∧ w'.cell? ⟨w.heap.size, 3, none⟩ = some (.int .i64 c.call) ∧ w'.cell? ⟨w.heap.size, 4, none⟩ = some (.int .i64 c.output) ∧ w'.cell? ⟨w.heap.size, 5, none⟩ = some (.int .i64 c.release) ∧ w'.cell? ⟨w.heap.size, 6, none⟩ = some (.int .i64 c.load) ∧ w'.cell? ⟨w.heap.size, 7, none⟩ = some (.int .i64 c.index) ∧ w'.cell? ⟨w.heap.size, 8, none⟩ = some (.int .i64 c.arith) ∧ w'.cell? ⟨w.heap.size, 9, none⟩ = some (.int .i64 c.multiply) ∧ w'.cell? ⟨w.heap.size, 10, none⟩ = some (.int .i64 c.divide) ∧ w'.cell? ⟨w.heap.size, 11, none⟩ = some (.int .i64 c.compare) ∧ w'.cell? ⟨w.heap.size, 12, none⟩ = some (.int .i64 c.logic) ∧ w'.cell? ⟨w.heap.size + 1, 0, none⟩ = some (.int .i64 e.op) ∧ w'.cell? ⟨w.heap.size + 1, 1, none⟩ = some (.int .i64 e.n) ∧ w'.cell? ⟨w.heap.size + 1, 2, none⟩ = some (.string e.nm) ∧ w'.cell? ⟨w.heap.size + 1, 3, none⟩ = some (.slice e.ad e.ks.length e.cap) := by
  obtain ⟨h0, h1, h2, h3, h4, h5, h6, h7, h8, h9, h10, h11, h12⟩ := c13 h.bc
  obtain ⟨e0, e1, e2, e3⟩ := e4 h.be
  exact ⟨h0, h1, h2, h3, h4, h5, h6, h7, h8, h9, h10, h11, h12, e0, e1, e2, e3⟩
theorem len2 (a b : Int) : [a, b].length ≤ 1000000 := by simp
theorem len3 (a b c : Int) : [a, b, c].length ≤ 1000000 := by simp
theorem Zs.one (w : World) (a : Int) (T : TypeId) : Zs (w.alloc (.cells #[.int .i64 a] T)) (w.alloc (.cells #[.int .i64 a] T)).heap.size (some ⟨w.heap.size, 0, none⟩) [a] := Zs.new_ w _ T _ rfl
theorem Zs.two (w : World) (a b : Int) (T : TypeId) : Zs (w.alloc (.cells #[.int .i64 a, .int .i64 b] T)) (w.alloc (.cells #[.int .i64 a, .int .i64 b] T)).heap.size (some ⟨w.heap.size, 0, none⟩) [a, b] := Zs.new_ w _ T _ rfl
theorem Zs.three (w : World) (a b d : Int) (T : TypeId) : Zs (w.alloc (.cells #[.int .i64 a, .int .i64 b, .int .i64 d] T)) (w.alloc (.cells #[.int .i64 a, .int .i64 b, .int .i64 d] T)).heap.size (some ⟨w.heap.size, 0, none⟩) [a, b, d] := Zs.new_ w _ T _ rfl
/-- the code of Place -/
def plK (c : C) (e : E) : Int := orL [ckC c [e], plC e]
/-- what Place returns -/
def plV (c : C) (e : E) : Int := if plK c e = 0 then plN c e else 0
theorem orL_two {a b : Int} (h : orL [a, b] = 0) : a = 0 ∧ b = 0 := by
  unfold orL orL orL at h
  split at h
  · split at h
    · exact ⟨by assumption, by assumption⟩
    · exact absurd h (by assumption)
  · exact absurd h (by assumption)
set_option maxRecDepth 100000 in
set_option maxHeartbeats 2000000 in
theorem cplace2_any (c : C) (e : E) (w : World) (h : Good w e) (hT : Tb w.heap.size w) : Calls Tryz.prog 18 #[c.val, e.val] w fun r w' => r = .returned (.tuple #[.int .i64 (plV c e), .int .i64 (plK c e)]) ∧ Below w.heap.size w w' := by
  obtain ⟨z, hz⟩ : ∃ z, Hid (plK c e = z) := ⟨_, Lib.hid rfl⟩
  obtain ⟨k1, hk1⟩ : ∃ k1, Hid (ckC c [e] = k1) := ⟨_, Lib.hid rfl⟩
  obtain ⟨k2, hk2⟩ : ∃ k2, Hid (plC e = k2) := ⟨_, Lib.hid rfl⟩
  have HZ : Hid (orL [k1, k2] = z) := Lib.hid (by rw [← hz.out, ← hk1.out, ← hk2.out]; rfl)
  rw [hz.out]
  have X := CeW.start w c e 23 44
  go_enter Tryz.func18, Tryz.ntmps18
  go_upto_region 1 with (fail)
  revert X
  generalize (w.alloc (.cells #[.int .i64 c.assign, .int .i64 c.branch, .int .i64 c.loop, .int .i64 c.call, .int .i64 c.output, .int .i64 c.release, .int .i64 c.load, .int .i64 c.index, .int .i64 c.arith, .int .i64 c.multiply, .int .i64 c.divide, .int .i64 c.compare, .int .i64 c.logic] 23)).alloc (.cells #[.int .i64 e.op, .int .i64 e.n, .string e.nm, .slice e.ad e.ks.length e.cap] 44) = w1
  intro X
  replace X := X.below (show Below w1.heap.size w1 w1.drew from (Below.refl _ _).drew)
  go_region_held3 (fun w' => w'.cell? ⟨w.heap.size, 0, none⟩ = some (.int .i64 c.assign) ∧ w'.cell? ⟨w.heap.size, 1, none⟩ = some (.int .i64 c.branch) ∧ w'.cell? ⟨w.heap.size, 2, none⟩ = some (.int .i64 c.loop) ∧ w'.cell? ⟨w.heap.size, 3, none⟩ = some (.int .i64 c.call) ∧ w'.cell? ⟨w.heap.size, 4, none⟩ = some (.int .i64 c.output) ∧ w'.cell? ⟨w.heap.size, 5, none⟩ = some (.int .i64 c.release) ∧ w'.cell? ⟨w.heap.size, 6, none⟩ = some (.int .i64 c.load) ∧ w'.cell? ⟨w.heap.size, 7, none⟩ = some (.int .i64 c.index) ∧ w'.cell? ⟨w.heap.size, 8, none⟩ = some (.int .i64 c.arith) ∧ w'.cell? ⟨w.heap.size, 9, none⟩ = some (.int .i64 c.multiply) ∧ w'.cell? ⟨w.heap.size, 10, none⟩ = some (.int .i64 c.divide) ∧ w'.cell? ⟨w.heap.size, 11, none⟩ = some (.int .i64 c.compare) ∧ w'.cell? ⟨w.heap.size, 12, none⟩ = some (.int .i64 c.logic) ∧ w'.cell? ⟨w.heap.size + 1, 0, none⟩ = some (.int .i64 e.op) ∧ w'.cell? ⟨w.heap.size + 1, 1, none⟩ = some (.int .i64 e.n) ∧ w'.cell? ⟨w.heap.size + 1, 2, none⟩ = some (.string e.nm) ∧ w'.cell? ⟨w.heap.size + 1, 3, none⟩ = some (.slice e.ad e.ks.length e.cap))
    (first | exact X.S | exact (X.below (al1 _ _)).S)
    (first
      | (go_at_call 33; refine (ccheck_any c [e] (some ⟨_, 0, none⟩) 1 _ (Okl.new1 _ e 44 (h.at X.bel)) (hT.at (X.below (al1 _ _)).bel)).mono ?_; rintro r w2 ⟨rfl, b2⟩; replace X := (X.below (al1 _ _)).below b2; rw [hk1.out])
      | (go_at_call 36; refine (cplace_any e _).mono ?_; rintro r w3 ⟨rfl, b3⟩; replace X := X.below b3; rw [hk2.out])
      | (go_at_call 35; refine (or_any [k1, k2] (some ⟨_, 0, none⟩) 2 _ (Zs.two _ k1 k2 _) (len2 k1 k2)).mono ?_; rintro r w4 ⟨rfl, rfl⟩; replace X := X.below (al1 _ (.cells #[.int .i64 k1, .int .i64 k2] 25)); rw [HZ.out]))
  clear HZ
  by_cases h0 : z = 0
  · subst h0
    obtain ⟨q1, q2⟩ := orL_two (show orL [ckC c [e], plC e] = 0 from hz.out)
    obtain ⟨ho, hk⟩ := ckC_zero q1
    have HR : Hid (plV c e = plN c e) := Lib.hid (by unfold plV; rw [if_pos hz.out])
    have hnod := hk.nodes
    have hin2 := h.hin.at X.bel
    obtain ⟨hc0, hc1, hc2, hc3, hc4, hc5, hc6, hc7, hc8, hc9, hc10, hc11, hc12⟩ := c13 X.bc
    obtain ⟨he0, he1, he2, he3⟩ := e4 X.be
    have HO := Lib.hid ho
    clear hk ho q1 q2
    go_wp2_with fail
    refine (placeCost_any c HO.out e _ hin2 (by omega)).mono ?_
    rintro r w6 ⟨rfl, b6⟩
    have b7 := bTrans X.bel b6
    go_wp2_with fail
    go_ret2
    exact ⟨ret2 HR.out.symm rfl, b7⟩
  · have hne : (z != 0) = true := by simpa using h0
    have HR : Hid (plV c e = 0) := Lib.hid (by unfold plV; rw [if_neg (by rw [hz.out]; exact h0)])
    have b7 := X.bel
    clear h0
    go_wp2_with fail
    go_ret2
    exact ⟨ret2 HR.out.symm rfl, b7⟩
end Go.Proofs.YtmemkcaikajnnaaGreatDoor
