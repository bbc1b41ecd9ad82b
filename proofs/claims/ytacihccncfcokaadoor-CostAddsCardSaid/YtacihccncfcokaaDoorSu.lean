/- Walk: the laws' sum of two models. -/
import Derived.Test.YtacihccncfcokaaDoorOwn
import Derived.Test.YtacihccncfcokaaDoorOf
import Derived.Test.YtacihccncfcokaaDoorKn
import Derived.StillTailTactics
import Derived.Deep.AppendLies
import Derived.Deep.RegionHeld3
namespace Go.Proofs.YtacihccncfcokaaDoor
open Go.RowKit Go.Sort
set_option linter.unusedVariables false

namespace C
/-- the sums of the entries -/
def add (c d : C) : C := ⟨c.assign + d.assign, c.branch + d.branch, c.loop + d.loop, c.call + d.call, c.output + d.output, c.release + d.release, c.load + d.load, c.index + d.index, c.arith + d.arith, c.multiply + d.multiply, c.divide + d.divide, c.compare + d.compare, c.logic + d.logic⟩
theorem add_at (c d : C) {i : Nat} (h : i < 13) : (add c d).list.getD i 0 = c.list.getD i 0 + d.list.getD i 0 := by
  match i, h with
  | 0, _ => rfl
  | 1, _ => rfl
  | 2, _ => rfl
  | 3, _ => rfl
  | 4, _ => rfl
  | 5, _ => rfl
  | 6, _ => rfl
  | 7, _ => rfl
  | 8, _ => rfl
  | 9, _ => rfl
  | 10, _ => rfl
  | 11, _ => rfl
  | 12, _ => rfl
theorem get_bd {c : C} (hc : c.ok = true) {i : Nat} (h : i < 13) : 0 ≤ c.list.getD i 0 ∧ c.list.getD i 0 ≤ 100 :=
  C.ok_get hc (by rw [List.getD_eq_getElem?_getD, List.getElem?_eq_getElem (by rw [C.len]; exact h)]; exact List.getElem_mem _)
theorem take_next (c : C) {i : Nat} (h : i < 13) : c.list.take (i + 1) = c.list.take i ++ [c.list.getD i 0] := by
  have h1 : i < c.list.length := by rw [C.len]; exact h
  rw [List.take_succ_eq_append_getElem h1, List.getD_eq_getElem?_getD, List.getElem?_eq_getElem h1]; rfl
end C
/-- a new list of thirteen numbers -/
def NewZ13 (zs : List Int) (w : World) (r : Ending) (w' : World) : Prop := ∃ (A : Option Addr) (c : Nat), r = .returned (.slice A 13 c) ∧ Zs w' w'.heap.size A zs ∧ Below w.heap.size w w'
/-- the boxes of sum: two models, the result -/
structure SuW (w wr : World) (c d : C) : Prop where
  bc : Blk wr w.heap.size c.box
  bd : Blk wr (w.heap.size + 1) d.box
  br : Blk wr (w.heap.size + 2) #[.int .i64 0, .int .i64 0, .int .i64 0, .int .i64 0, .int .i64 0, .int .i64 0, .int .i64 0, .int .i64 0, .int .i64 0, .int .i64 0, .int .i64 0, .int .i64 0, .int .i64 0]
  bel : Below w.heap.size w wr
theorem SuW.below {w wr w' : World} {c d : C} (h : SuW w wr c d) (hb : Below wr.heap.size wr w') : SuW w w' c d := ⟨h.bc.below hb h.bc.lt, h.bd.below hb h.bd.lt, h.br.below hb h.br.lt, bTrans h.bel hb⟩
theorem SuW.start (w : World) (c d : C) (T T' T'' : TypeId) : SuW w (((w.alloc (.cells c.box T)).alloc (.cells d.box T')).alloc (.cells #[.int .i64 0, .int .i64 0, .int .i64 0, .int .i64 0, .int .i64 0, .int .i64 0, .int .i64 0, .int .i64 0, .int .i64 0, .int .i64 0, .int .i64 0, .int .i64 0, .int .i64 0] T'')) c d :=
  ⟨((Blk.new_ _ _ _).alloc _).alloc _, (Blk.new' (by simp)).alloc _, Blk.new' (by simp), ((al1 w _).alloc (by simp) _).alloc (by simp; omega) _⟩
theorem SuW.drew {w wr : World} {c d : C} (h : SuW w wr c d) : SuW w wr.drew c d := h.below (show Below wr.heap.size wr wr.drew from (Below.refl _ _).drew)
theorem SuW.S {w w' : World} {c d : C} (h : SuW w w' c d) : w'.cell? ⟨w.heap.size, 0, none⟩ = some (.int .i64 c.assign) ∧ w'.cell? ⟨w.heap.size, 1, none⟩ = some (.int .i64 c.branch) ∧ w'.cell? ⟨w.heap.size, 2, none⟩ = some (.int .i64 c.loop) ∧ w'.cell? ⟨w.heap.size, 3, none⟩ = some (.int .i64 c.call) ∧ w'.cell? ⟨w.heap.size, 4, none⟩ = some (.int .i64 c.output) ∧ w'.cell? ⟨w.heap.size, 5, none⟩ = some (.int .i64 c.release) ∧ w'.cell? ⟨w.heap.size, 6, none⟩ = some (.int .i64 c.load) ∧ w'.cell? ⟨w.heap.size, 7, none⟩ = some (.int .i64 c.index) ∧ w'.cell? ⟨w.heap.size, 8, none⟩ = some (.int .i64 c.arith) ∧ w'.cell? ⟨w.heap.size, 9, none⟩ = some (.int .i64 c.multiply) ∧ w'.cell? ⟨w.heap.size, 10, none⟩ = some (.int .i64 c.divide) ∧ w'.cell? ⟨w.heap.size, 11, none⟩ = some (.int .i64 c.compare) ∧ w'.cell? ⟨w.heap.size, 12, none⟩ = some (.int .i64 c.logic) ∧ w'.cell? ⟨w.heap.size + 1, 0, none⟩ = some (.int .i64 d.assign) ∧ w'.cell? ⟨w.heap.size + 1, 1, none⟩ = some (.int .i64 d.branch) ∧ w'.cell? ⟨w.heap.size + 1, 2, none⟩ = some (.int .i64 d.loop) ∧ w'.cell? ⟨w.heap.size + 1, 3, none⟩ = some (.int .i64 d.call) ∧ w'.cell? ⟨w.heap.size + 1, 4, none⟩ = some (.int .i64 d.output) ∧ w'.cell? ⟨w.heap.size + 1, 5, none⟩ = some (.int .i64 d.release) ∧ w'.cell? ⟨w.heap.size + 1, 6, none⟩ = some (.int .i64 d.load) ∧ w'.cell? ⟨w.heap.size + 1, 7, none⟩ = some (.int .i64 d.index) ∧ w'.cell? ⟨w.heap.size + 1, 8, none⟩ = some (.int .i64 d.arith) ∧ w'.cell? ⟨w.heap.size + 1, 9, none⟩ = some (.int .i64 d.multiply) ∧ w'.cell? ⟨w.heap.size + 1, 10, none⟩ = some (.int .i64 d.divide) ∧ w'.cell? ⟨w.heap.size + 1, 11, none⟩ = some (.int .i64 d.compare) ∧ w'.cell? ⟨w.heap.size + 1, 12, none⟩ = some (.int .i64 d.logic) := by
  obtain ⟨h0, h1, h2, h3, h4, h5, h6, h7, h8, h9, h10, h11, h12⟩ := c13 h.bc
  obtain ⟨e0, e1, e2, e3, e4, e5, e6, e7, e8, e9, e10, e11, e12⟩ := c13 h.bd
  exact ⟨h0, h1, h2, h3, h4, h5, h6, h7, h8, h9, h10, h11, h12, e0, e1, e2, e3, e4, e5, e6, e7, e8, e9, e10, e11, e12⟩
/-- the row of sums so far -/
structure SuI (w wr : World) (c d : C) (B : Nat) (A1 A2 : Option Addr) (v : Value) (zs : List Int) : Prop where
  own : wr.ownsRow B 3 1 v zs.length (zvals zs)
  X : SuW w wr c d
  z1 : Zs wr B A1 c.list
  z2 : Zs wr B A2 d.list
  b1 : w.heap.size + 3 ≤ B
  b2 : B ≤ wr.heap.size
theorem SuW.low {w wr w' : World} {c d : C} {B : Nat} (h : SuW w wr c d) (hb : Below B wr w') (hB : w.heap.size + 3 ≤ B) : SuW w w' c d :=
  ⟨h.bc.below hb (by omega), h.bd.below hb (by omega), h.br.below hb (by omega), h.bel.trans (hb.mono (by omega))⟩
theorem SuI.grown {w wr w3 : World} {c d : C} {B : Nat} {A1 A2 : Option Addr} {v v' : Value} {zs : List Int} {x : Int} {o : Obj} (h : SuI w wr c d B A1 A2 v zs)
    (ho : w3.ownsRow B 3 1 v' (zs.length + 1) (zvals zs ++ [.int .i64 x])) (hg : (wr.alloc o).grownBy w3 v.ownBlock) : SuI w w3 c d B A1 A2 v' (zs ++ [x]) := by
  have hb : Below B wr w3 := ((Below.refl B wr).alloc h.b2 o).grown hg (by have := h.b2; simp; omega) (fun k e => (h.own.lt k e).1)
  exact ⟨by rw [zvals_snoc, List.length_append]; exact ho, h.X.low hb h.b1, h.z1.below hb, h.z2.below hb, h.b1, Nat.le_trans h.b2 hb.size⟩
theorem SuI.two {w wr w3 : World} {c d : C} {B : Nat} {A1 A2 : Option Addr} {v : Value} {zs : List Int} {o : Obj} {ab ao bb bo : Nat} {x y : Value} (h : SuI w wr c d B A1 A2 v zs) (hg : (wr.alloc o).grownBy w3 v.ownBlock)
    (h1 : wr.cell? ⟨ab, ao, none⟩ = some x) (h2 : wr.cell? ⟨bb, bo, none⟩ = some y) (ha : ab < B) (hb : bb < B) : w3.cell? ⟨ab, ao, none⟩ = some x ∧ w3.cell? ⟨bb, bo, none⟩ = some y := by
  have hb' : Below B wr w3 := ((Below.refl B wr).alloc h.b2 o).grown hg (by have := h.b2; simp; omega) (fun k e => (h.own.lt k e).1)
  exact ⟨(hb'.cell (p := ⟨ab, ao, none⟩) ha).trans h1, (hb'.cell (p := ⟨bb, bo, none⟩) hb).trans h2⟩
theorem SuI.below {w wr w' : World} {c d : C} {B : Nat} {A1 A2 : Option Addr} {v : Value} {zs : List Int} (h : SuI w wr c d B A1 A2 v zs) (hb : Below wr.heap.size wr w') : SuI w w' c d B A1 A2 v zs :=
  ⟨h.own.kept (row := none) ⟨hb.os, hb.tape, hb.output, hb.size, fun k hk _ => hb.block k hk⟩ (by cases hv : v.ownBlock <;> simp), h.X.below hb, h.z1.below (hb.mono h.b2), h.z2.below (hb.mono h.b2), h.b1, Nat.le_trans h.b2 hb.size⟩
theorem SuI.start {w wr : World} {c d : C} {A1 A2 : Option Addr} (X : SuW w wr c d) (z1 : Zs wr wr.heap.size A1 c.list) (z2 : Zs wr wr.heap.size A2 d.list) : SuI w (wr.alloc (.cells #[] 3)) c d wr.heap.size A1 A2 (.slice (some ⟨wr.heap.size, 0, none⟩) 0 0) [] :=
  ⟨⟨rfl, .inr ⟨wr.heap.size, 0, #[], rfl, Nat.le_refl _, heap_alloc_new wr _, Nat.le_refl _, by unfold maxLen; omega, rfl, rfl⟩⟩, X.below (al1 _ _), z1.below (al1 _ _), z2.below (al1 _ _), by have := X.br.lt; omega, by simp⟩
set_option maxRecDepth 100000 in
set_option maxHeartbeats 8000000 in
theorem csum_any (c d : C) (hc : c.ok = true) (hd : d.ok = true) (w : World) : Calls Tryd.prog 23 #[c.val, d.val] w fun r w' => r = .returned ((C.add c d).val) ∧ Below w.heap.size w w' := by
  obtain ⟨i0, hi0, hz0, hz1, hz2⟩ := info_parts infoInt
  have L1 := Lib.hid (show ∀ w : World, Calls Tryd.prog 15 #[c.val] w (NewZ13 c.list w) from fun w => rlist_any c w)
  have L2 := Lib.hid (show ∀ w : World, Calls Tryd.prog 15 #[d.val] w (NewZ13 d.list w) from fun w => rlist_any d w)
  have HC := Lib.hid hc
  have HD := Lib.hid hd
  clear hc hd
  have X := SuW.start w c d 23 23 23
  go_enter Tryd.func23, Tryd.ntmps23
  go_upto_region 1 with (fail)
  revert X
  generalize ((w.alloc (.cells #[.int .i64 c.assign, .int .i64 c.branch, .int .i64 c.loop, .int .i64 c.call, .int .i64 c.output, .int .i64 c.release, .int .i64 c.load, .int .i64 c.index, .int .i64 c.arith, .int .i64 c.multiply, .int .i64 c.divide, .int .i64 c.compare, .int .i64 c.logic] 23)).alloc (.cells #[.int .i64 d.assign, .int .i64 d.branch, .int .i64 d.loop, .int .i64 d.call, .int .i64 d.output, .int .i64 d.release, .int .i64 d.load, .int .i64 d.index, .int .i64 d.arith, .int .i64 d.multiply, .int .i64 d.divide, .int .i64 d.compare, .int .i64 d.logic] 23)).alloc (.cells #[.int .i64 0, .int .i64 0, .int .i64 0, .int .i64 0, .int .i64 0, .int .i64 0, .int .i64 0, .int .i64 0, .int .i64 0, .int .i64 0, .int .i64 0, .int .i64 0, .int .i64 0] 23) = w1
  intro X
  replace X := X.drew
  go_region_held3 (fun w' => w'.cell? ⟨w.heap.size, 0, none⟩ = some (.int .i64 c.assign) ∧ w'.cell? ⟨w.heap.size, 1, none⟩ = some (.int .i64 c.branch) ∧ w'.cell? ⟨w.heap.size, 2, none⟩ = some (.int .i64 c.loop) ∧ w'.cell? ⟨w.heap.size, 3, none⟩ = some (.int .i64 c.call) ∧ w'.cell? ⟨w.heap.size, 4, none⟩ = some (.int .i64 c.output) ∧ w'.cell? ⟨w.heap.size, 5, none⟩ = some (.int .i64 c.release) ∧ w'.cell? ⟨w.heap.size, 6, none⟩ = some (.int .i64 c.load) ∧ w'.cell? ⟨w.heap.size, 7, none⟩ = some (.int .i64 c.index) ∧ w'.cell? ⟨w.heap.size, 8, none⟩ = some (.int .i64 c.arith) ∧ w'.cell? ⟨w.heap.size, 9, none⟩ = some (.int .i64 c.multiply) ∧ w'.cell? ⟨w.heap.size, 10, none⟩ = some (.int .i64 c.divide) ∧ w'.cell? ⟨w.heap.size, 11, none⟩ = some (.int .i64 c.compare) ∧ w'.cell? ⟨w.heap.size, 12, none⟩ = some (.int .i64 c.logic) ∧ w'.cell? ⟨w.heap.size + 1, 0, none⟩ = some (.int .i64 d.assign) ∧ w'.cell? ⟨w.heap.size + 1, 1, none⟩ = some (.int .i64 d.branch) ∧ w'.cell? ⟨w.heap.size + 1, 2, none⟩ = some (.int .i64 d.loop) ∧ w'.cell? ⟨w.heap.size + 1, 3, none⟩ = some (.int .i64 d.call) ∧ w'.cell? ⟨w.heap.size + 1, 4, none⟩ = some (.int .i64 d.output) ∧ w'.cell? ⟨w.heap.size + 1, 5, none⟩ = some (.int .i64 d.release) ∧ w'.cell? ⟨w.heap.size + 1, 6, none⟩ = some (.int .i64 d.load) ∧ w'.cell? ⟨w.heap.size + 1, 7, none⟩ = some (.int .i64 d.index) ∧ w'.cell? ⟨w.heap.size + 1, 8, none⟩ = some (.int .i64 d.arith) ∧ w'.cell? ⟨w.heap.size + 1, 9, none⟩ = some (.int .i64 d.multiply) ∧ w'.cell? ⟨w.heap.size + 1, 10, none⟩ = some (.int .i64 d.divide) ∧ w'.cell? ⟨w.heap.size + 1, 11, none⟩ = some (.int .i64 d.compare) ∧ w'.cell? ⟨w.heap.size + 1, 12, none⟩ = some (.int .i64 d.logic))
    (first | exact X.S)
    (first
      | (go_at_call 15; ((with_reducible refine (L1.out _).mono ?_); rintro r w2 ⟨A1, n1, rfl, hZ1, b2⟩); replace X := X.below b2; clear L1)
      | (go_at_call 15; refine (L2.out _).mono ?_; rintro r w3 ⟨A2, n2, rfl, hZ2, b3⟩; replace X := X.below b3; replace hZ1 := hZ1.at b3))
  have Y := SuI.start X hZ1 hZ2
  obtain ⟨B, hB⟩ : ∃ B, Hid (w3.heap.size = B) := ⟨_, Lib.hid rfl⟩
  have HX := Lib.hid X
  clear X hZ1 hZ2 L2
  go_upto_region 3 with (fail)
  revert Y
  rw [hB.out]
  generalize w3.alloc (.cells #[] 3) = w4
  intro Y
  clear hB HX
  go_wp2_with fail
  go_loopw [7, 16] (fun sv iv wr => ∃ i : Nat, i ≤ 13 ∧ iv = .int .i64 i ∧ ∃ zs : List Int, Hid (zs = (C.add c d).list.take i) ∧ Hid (zs.length = i) ∧ SuI w wr c d B A1 A2 sv zs) (fun _ iv _ => 13 - (intOf iv).toNat)
  case atStart => exact ⟨0, Nat.zero_le _, rfl, [], Lib.hid rfl, Lib.hid rfl, Y⟩
  case round =>
    clear Y
    obtain ⟨i, hi, rfl, zs, hzs, hzl, Y⟩ := hrel
    by_cases hlt : i < 13
    · have hltI : (i : Int) < 13 := by omega
      obtain ⟨ab, aoff, x, rfl, hab, g1, hx⟩ := Y.z1.at_ (k := i) (by rw [C.len]; exact hlt)
      obtain ⟨bb, boff, y, rfl, hbb, g2, hy⟩ := Y.z2.at_ (k := i) (by rw [C.len]; exact hlt)
      have ex : c.list.getD i 0 = x := by
        obtain ⟨h1, h2⟩ := hx.out
        rw [List.getD_eq_getElem?_getD, List.getElem?_eq_getElem h1, h2]; rfl
      have ey : d.list.getD i 0 = y := by
        obtain ⟨h1, h2⟩ := hy.out
        rw [List.getD_eq_getElem?_getD, List.getElem?_eq_getElem h1, h2]; rfl
      have bx := C.get_bd HC.out hlt
      have by_ := C.get_bd HD.out hlt
      rw [ex] at bx
      rw [ey] at by_
      have HT : Hid (zs ++ [x + y] = (C.add c d).list.take (i + 1)) := Lib.hid (by rw [C.take_next _ hlt, C.add_at c d hlt, ex, ey, hzs.out])
      clear ex ey hx hy
      have HL : Hid ((zs ++ [x + y]).length = i + 1) := Lib.hid (by rw [List.length_append, hzl.out]; rfl)
      obtain ⟨u, hu⟩ : ∃ u, Hid (x + y = u) := ⟨_, Lib.hid rfl⟩
      rw [hu.out] at HT HL
      have hw : IntKind.i64.wrap (x + y) = u := by rw [← hu.out]; exact IntWalk.i64_in _ (by omega)
      have hzb : zs.length ≤ 13 := by rw [hzl.out]; omega
      clear hu bx by_
      obtain ⟨A', c', rfl⟩ := own_slice Y.own
      have ho := Y.own
      have hb2 := Y.b2
      have habw : ab < wr.heap.size := by omega
      have hbbw : bb < wr.heap.size := by omega
      have k0 : wr.drew.cell? ⟨ab, aoff + i, none⟩ = some (.int .i64 x) ∧ wr.drew.cell? ⟨bb, boff + i, none⟩ = some (.int .i64 y) := ⟨g1, g2⟩
      have k1 : ∀ o, (wr.drew.alloc o).cell? ⟨ab, aoff + i, none⟩ = some (.int .i64 x) ∧ (wr.drew.alloc o).cell? ⟨bb, boff + i, none⟩ = some (.int .i64 y) := fun o =>
        ⟨(World.cell?_alloc_lt wr.drew o _ (by show ab < wr.heap.size; omega)).trans g1, (World.cell?_alloc_lt wr.drew o _ (by show bb < wr.heap.size; omega)).trans g2⟩
      have Yd := Y.below (show Below wr.heap.size wr wr.drew from (Below.refl _ _).drew)
      go_wp2_with fail
      go_region_held3 (fun w' => w'.cell? ⟨ab, aoff + i, none⟩ = some (.int .i64 x) ∧ w'.cell? ⟨bb, boff + i, none⟩ = some (.int .i64 y)) (first | exact k0 | exact k1 _ | exact kg)
        ((refine step_append_lies _ (by rfl) _ _ 29 (by rfl) B 3 i0 (.int .i64 0) 1 8 Tryd.underlying29 hi0 hz0 hz1 hz2 (by decide) (by decide) _ _ _ (by rfl) (ho.alloc _) ⟨wr.heap.size, 0, none⟩ 1 1 [.int .i64 u] (by rfl) (by rfl) (cell_one_new _ _ _) (fun u hu => by simp at hu; subst hu; rfl) (by decide) (by unfold maxLen; omega) (by omega) (by simp; omega) _ rfl ?_; intro g cap w8 hown8 hgrow hat hlt8; have Y8 := Yd.grown (x := u) hown8 hgrow; have kg := Yd.two hgrow k0.1 k0.2 hab hbb))
      clear Y ho k0 k1 Yd g1 g2 hown8 hgrow hat hlt8 kg
      go_wp2_with fail
      go_roundw
      case rel => exact ⟨i + 1, by omega, by go_num, zs ++ [u], HT, HL, Y8⟩
      case measure => simp [intOf]; omega
    · obtain rfl : i = 13 := by omega
      have hzz : zs = (C.add c d).list := by rw [hzs.out]; rfl
      obtain ⟨A', c', rfl⟩ := own_slice Y.own
      have ho := Y.own
      have hres : Zs wr wr.heap.size A' (C.add c d).list := by rw [← hzz]; exact ⟨Row.of_own ho⟩
      obtain ⟨b', off', e', hb', -⟩ := hres.row.cells (by rw [List.length_map, C.len]; decide)
      subst e'
      have e13 : zs.length = 13 := by rw [hzz]; rfl
      rw [e13]
      have X := Y.X
      clear ho Y hzs hzl hzz e13
      go_wp2_with fail
      refine (rof_any (C.add c d) b' off' c' _ hres).mono ?_
      rintro r w7 ⟨rfl, b7⟩
      replace X := X.below b7
      have hz := X.br
      have b3 := X.bel
      clear b7 X hres
      have q0 : w7.cell? ⟨w.heap.size + 2, 0, none⟩ = some (.int .i64 0) := hz.c 0 rfl
      have f0 := hz.fr 0
      have q1 : w7.cell? ⟨w.heap.size + 2, 1, none⟩ = some (.int .i64 0) := hz.c 1 rfl
      have f1 := hz.fr 1
      have q2 : w7.cell? ⟨w.heap.size + 2, 2, none⟩ = some (.int .i64 0) := hz.c 2 rfl
      have f2 := hz.fr 2
      have q3 : w7.cell? ⟨w.heap.size + 2, 3, none⟩ = some (.int .i64 0) := hz.c 3 rfl
      have f3 := hz.fr 3
      have q4 : w7.cell? ⟨w.heap.size + 2, 4, none⟩ = some (.int .i64 0) := hz.c 4 rfl
      have f4 := hz.fr 4
      have q5 : w7.cell? ⟨w.heap.size + 2, 5, none⟩ = some (.int .i64 0) := hz.c 5 rfl
      have f5 := hz.fr 5
      have q6 : w7.cell? ⟨w.heap.size + 2, 6, none⟩ = some (.int .i64 0) := hz.c 6 rfl
      have f6 := hz.fr 6
      have q7 : w7.cell? ⟨w.heap.size + 2, 7, none⟩ = some (.int .i64 0) := hz.c 7 rfl
      have f7 := hz.fr 7
      have q8 : w7.cell? ⟨w.heap.size + 2, 8, none⟩ = some (.int .i64 0) := hz.c 8 rfl
      have f8 := hz.fr 8
      have q9 : w7.cell? ⟨w.heap.size + 2, 9, none⟩ = some (.int .i64 0) := hz.c 9 rfl
      have f9 := hz.fr 9
      have q10 : w7.cell? ⟨w.heap.size + 2, 10, none⟩ = some (.int .i64 0) := hz.c 10 rfl
      have f10 := hz.fr 10
      have q11 : w7.cell? ⟨w.heap.size + 2, 11, none⟩ = some (.int .i64 0) := hz.c 11 rfl
      have f11 := hz.fr 11
      have q12 : w7.cell? ⟨w.heap.size + 2, 12, none⟩ = some (.int .i64 0) := hz.c 12 rfl
      have f12 := hz.fr 12
      obtain ⟨S, hS⟩ : ∃ S, Hid (C.add c d = S) := ⟨_, Lib.hid rfl⟩
      rw [hS.out]
      go_wp2_with fail
      have K := put13 hz S
      have BB := below13 b3 (show w.heap.size ≤ w.heap.size + 2 by omega) S
      revert K BB
      generalize (((((((((((((w7.setCell ⟨w.heap.size + 2, 0, none⟩ (.int .i64 S.assign)).setCell ⟨w.heap.size + 2, 1, none⟩ (.int .i64 S.branch)).setCell ⟨w.heap.size + 2, 2, none⟩ (.int .i64 S.loop)).setCell ⟨w.heap.size + 2, 3, none⟩ (.int .i64 S.call)).setCell ⟨w.heap.size + 2, 4, none⟩ (.int .i64 S.output)).setCell ⟨w.heap.size + 2, 5, none⟩ (.int .i64 S.release)).setCell ⟨w.heap.size + 2, 6, none⟩ (.int .i64 S.load)).setCell ⟨w.heap.size + 2, 7, none⟩ (.int .i64 S.index)).setCell ⟨w.heap.size + 2, 8, none⟩ (.int .i64 S.arith)).setCell ⟨w.heap.size + 2, 9, none⟩ (.int .i64 S.multiply)).setCell ⟨w.heap.size + 2, 10, none⟩ (.int .i64 S.divide)).setCell ⟨w.heap.size + 2, 11, none⟩ (.int .i64 S.compare)).setCell ⟨w.heap.size + 2, 12, none⟩ (.int .i64 S.logic)) = w9
      intro K BB
      obtain ⟨r0, r1, r2, r3, r4, r5, r6, r7, r8, r9, r10, r11, r12⟩ := c13 K
      refine bodyPost_ret (v := S.val) (by simp [results, Tryd.results23, go_sem, r0, r1, r2, r3, r4, r5, r6, r7, r8, r9, r10, r11, r12]) rfl ⟨by rw [hS.out], BB⟩
end Go.Proofs.YtacihccncfcokaaDoor
