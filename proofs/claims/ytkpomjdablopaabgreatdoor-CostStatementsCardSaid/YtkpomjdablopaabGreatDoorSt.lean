/- Walks: more, If, Set of package cost. -/
import Derived.Test.YtkpomjdablopaabGreatDoorRi
import Derived.Deep.RegionLaw
import Derived.Deep.AppendLies
namespace Go.Proofs.YtkpomjdablopaabGreatDoor
open Go.RowKit Go.Sort
set_option linter.unusedVariables false

/-- what a statement costs that costs n more than its value -/
def moN (n : Int) (c : C) (e : E) : Int := if ckC c [e] = 0 then n + exN c e else 0
theorem exN_bd {c : C} {e : E} (h : ckC c [e] = 0) : 0 ≤ exN c e ∧ exN c e ≤ 102400 := by
  obtain ⟨hc, ho⟩ := ckC_zero h
  have := C.sum_bd hc e
  have := ho.nodes
  unfold exN
  rw [if_pos h]
  omega
set_option maxRecDepth 100000 in
set_option maxHeartbeats 1000000 in
theorem more_any (n : Int) (c : C) (e : E) (w : World) (h : Good w e) (hT : Tb w.heap.size w) (hn : ckC c [e] = 0 → 0 ≤ n ∧ n ≤ 100) : Calls Tryz.prog 29 #[.int .i64 n, c.val, e.val] w fun r w' => r = .returned (.tuple #[.int .i64 (moN n c e), .int .i64 (ckC c [e])]) ∧ Below w.heap.size w w' := by
  have HN := Lib.hid hn
  obtain ⟨k, hk⟩ : ∃ k, Hid (ckC c [e] = k) := ⟨_, Lib.hid rfl⟩
  obtain ⟨m, hm⟩ : ∃ m, Hid (moN n c e = m) := ⟨_, Lib.hid rfl⟩
  obtain ⟨x, hx⟩ : ∃ x, Hid (exN c e = x) := ⟨_, Lib.hid rfl⟩
  rw [hk.out, hm.out]
  clear hn
  have X := CeW.start w c e 23 27
  go_enter Tryz.func29, Tryz.ntmps29
  go_upto_region 1 with (fail)
  revert X
  generalize (w.alloc (.cells #[.int .i64 c.assign, .int .i64 c.branch, .int .i64 c.loop, .int .i64 c.call, .int .i64 c.output, .int .i64 c.release, .int .i64 c.load, .int .i64 c.index, .int .i64 c.arith, .int .i64 c.multiply, .int .i64 c.divide, .int .i64 c.compare, .int .i64 c.logic] 23)).alloc (.cells #[.int .i64 e.op, .int .i64 e.n, .string e.nm, .slice e.ad e.ks.length e.cap] 27) = w1
  intro X
  obtain ⟨hc0, hc1, hc2, hc3, hc4, hc5, hc6, hc7, hc8, hc9, hc10, hc11, hc12⟩ := c13 X.bc
  obtain ⟨he0, he1, he2, he3⟩ := e4 X.be
  go_wp2_with fail
  refine (cexpr_any c e _ (h.at X.bel) (hT.at X.bel)).mono ?_
  rintro r w2 ⟨rfl, b2⟩
  rw [hk.out, hx.out]
  have b3 := bTrans X.bel b2
  clear b2 X hc0 hc1 hc2 hc3 hc4 hc5 hc6 hc7 hc8 hc9 hc10 hc11 hc12 he0 he1 he2 he3
  by_cases h0 : k = 0
  · subst h0
    have hn2 := HN.out hk.out
    have hxb := exN_bd hk.out
    rw [hx.out] at hxb
    have HM : Hid (n + x = m) := Lib.hid (by rw [← hm.out, ← hx.out]; unfold moN; rw [if_pos hk.out])
    have hw : IntKind.i64.wrap (n + x) = m := by rw [← HM.out]; exact IntWalk.i64_in _ (by omega)
    clear hxb hn2 HN
    go_wp2_with fail
    go_ret2
    exact ⟨ret2 rfl rfl, b3⟩
  · have hne : (k != 0) = true := by simpa using h0
    have HM : Hid (0 = m) := Lib.hid (by rw [← hm.out]; unfold moN; rw [if_neg (by rw [hk.out]; exact h0)])
    clear h0
    go_wp2_with fail
    go_ret2
    exact ⟨ret2 HM.out rfl, b3⟩
set_option maxRecDepth 100000 in
set_option maxHeartbeats 1000000 in
theorem cif_any (c : C) (e : E) (w : World) (h : Good w e) (hT : Tb w.heap.size w) : Calls Tryz.prog 10 #[c.val, e.val] w fun r w' => r = .returned (.tuple #[.int .i64 (moN c.branch c e), .int .i64 (ckC c [e])]) ∧ Below w.heap.size w w' := by
  have X := CeW.start w c e 23 27
  go_enter Tryz.func10, Tryz.ntmps10
  go_upto_region 1 with (fail)
  revert X
  generalize (w.alloc (.cells #[.int .i64 c.assign, .int .i64 c.branch, .int .i64 c.loop, .int .i64 c.call, .int .i64 c.output, .int .i64 c.release, .int .i64 c.load, .int .i64 c.index, .int .i64 c.arith, .int .i64 c.multiply, .int .i64 c.divide, .int .i64 c.compare, .int .i64 c.logic] 23)).alloc (.cells #[.int .i64 e.op, .int .i64 e.n, .string e.nm, .slice e.ad e.ks.length e.cap] 27) = w1
  intro X
  obtain ⟨hc0, hc1, hc2, hc3, hc4, hc5, hc6, hc7, hc8, hc9, hc10, hc11, hc12⟩ := c13 X.bc
  obtain ⟨he0, he1, he2, he3⟩ := e4 X.be
  go_wp2_with fail
  refine (more_any c.branch c e _ (h.at X.bel) (hT.at X.bel) (fun hk => C.ok_get (ckC_zero hk).1 (by simp [C.list]))).mono ?_
  rintro r w2 ⟨rfl, b2⟩
  have b3 := bTrans X.bel b2
  clear b2 X hc0 hc1 hc2 hc3 hc4 hc5 hc6 hc7 hc8 hc9 hc10 hc11 hc12 he0 he1 he2 he3
  go_wp2_with fail
  go_ret2
  exact ⟨rfl, b3⟩

/-- the code and the cost of an assignment -/
def seK (c : C) (p v : E) (s : Int) : Int := orL [ckC c [p, v], plC p, scC [s]]
def seN (c : C) (p v : E) (s : Int) : Int := if seK c p v s = 0 then c.assign * s + plN c p + v.sum c.opC else 0
/-- the boxes of Set: a model, a place, a value -/
structure SeW (w wr : World) (c : C) (p v : E) : Prop where
  bc : Blk wr w.heap.size c.box
  bp : Blk wr (w.heap.size + 1) p.box
  bv : Blk wr (w.heap.size + 2) v.box
  bel : Below w.heap.size w wr
theorem SeW.below {w wr w' : World} {c : C} {p v : E} (h : SeW w wr c p v) (hb : Below wr.heap.size wr w') : SeW w w' c p v := ⟨h.bc.below hb h.bc.lt, h.bp.below hb h.bp.lt, h.bv.below hb h.bv.lt, bTrans h.bel hb⟩
theorem SeW.start (w : World) (c : C) (p v : E) (T T' T'' : TypeId) : SeW w (((w.alloc (.cells c.box T)).alloc (.cells p.box T')).alloc (.cells v.box T'')) c p v :=
  ⟨((Blk.new_ _ _ _).alloc _).alloc _, by
    have := (Blk.new_ (w.alloc (.cells c.box T)) p.box T').alloc (.cells v.box T'')
    rwa [World.size_alloc] at this, by
    have := Blk.new_ ((w.alloc (.cells c.box T)).alloc (.cells p.box T')) v.box T''
    rwa [World.size_alloc, World.size_alloc] at this, ((al1 w _).alloc (by simp) _).alloc (by simp; omega) _⟩
theorem SeW.drew {w wr : World} {c : C} {p v : E} (h : SeW w wr c p v) : SeW w wr.drew c p v := h.below (show Below wr.heap.size wr wr.drew from (Below.refl _ _).drew)
/-- behind the checks -/
def SeQ (w : World) (c : C) (p v : E) (wx : World) : Prop := SeW w wx c p v
abbrev pr2 (x y : E) : Array Value := #[.int .i64 x.op, .int .i64 x.n, .string x.nm, .slice x.ad x.ks.length x.cap, .int .i64 y.op, .int .i64 y.n, .string y.nm, .slice y.ad y.ks.length y.cap]
theorem okl2 {w W : World} {p v : E} {b : Nat} (hp : Good w p) (hv : Good w v) (hw : Below w.heap.size w W) (hb : Blk W b (pr2 p v)) : Okl W (some ⟨b, 0, none⟩) [p, v] :=
  ⟨⟨by simp, ⟨fun _ => ⟨b, 0, rfl, hb.lt, fun k u hu => by
      rw [Nat.zero_add]
      refine hb.c k ?_
      have e : E.flat [p, v] = (pr2 p v).toList := rfl
      rw [e, Array.getElem?_toList] at hu
      exact hu⟩⟩, fun e he => by simp at he; rcases he with rfl | rfl <;> first | exact hp.hin.at hw | exact hv.hin.at hw⟩, fun e he => by simp at he; rcases he with rfl | rfl <;> first | exact hp.big | exact hv.big⟩
theorem zs1 {W : World} {b : Nat} {s : Int} (h : Blk W b #[.int .i64 s]) : Zs W W.heap.size (some ⟨b, 0, none⟩) [s] :=
  ⟨⟨fun _ => ⟨b, 0, rfl, h.lt, fun k u hu => by
      rw [Nat.zero_add]
      refine h.c k ?_
      have e : ([s].map fun x => Value.int .i64 x) = (#[Value.int .i64 s] : Array Value).toList := rfl
      rw [e, Array.getElem?_toList] at hu
      exact hu⟩⟩⟩
theorem zs3 {W : World} {b : Nat} {x y z : Int} (h : Blk W b #[.int .i64 x, .int .i64 y, .int .i64 z]) : Zs W W.heap.size (some ⟨b, 0, none⟩) [x, y, z] :=
  ⟨⟨fun _ => ⟨b, 0, rfl, h.lt, fun k u hu => by
      rw [Nat.zero_add]
      refine h.c k ?_
      have e : ([x, y, z].map fun x => Value.int .i64 x) = (#[Value.int .i64 x, .int .i64 y, .int .i64 z] : Array Value).toList := rfl
      rw [e, Array.getElem?_toList] at hu
      exact hu⟩⟩⟩
end Go.Proofs.YtkpomjdablopaabGreatDoor
