/- Walks: Clean, Abs, Neg. -/
import Derived.Test.YtmhfdmidaheoeaaDoorW2
import Derived.Deep.RegionHeld3
import Derived.Deep.DeepCutAuto
namespace Go.Proofs.YtmhfdmidaheoeaaDoor
open Go.RowKit
set_option linter.unusedVariables false

theorem two_set (w : World) {b : Nat} {x y : Value} (u v : Value) (h0 : w.cell? ⟨b, 0, none⟩ = some x) (h1 : w.cell? ⟨b, 1, none⟩ = some y) :
    ((w.setCell ⟨b, 0, none⟩ u).setCell ⟨b, 1, none⟩ v).cell? ⟨b, 0, none⟩ = some u ∧ ((w.setCell ⟨b, 0, none⟩ u).setCell ⟨b, 1, none⟩ v).cell? ⟨b, 1, none⟩ = some v := by
  refine ⟨?_, ?_⟩
  · rw [World.cell?_setCell_other _ _ _ _ (by simp)]
    exact World.cell?_setCell_same _ _ _ h0
  · refine World.cell?_setCell_same _ _ _ (u := y) ?_
    rw [World.cell?_setCell_other _ _ _ _ (by simp)]
    exact h1

theorem bDrew1 {B : Nat} {a w : World} (h : Below B a w) : Below B a w.drew := ⟨h.os, h.tape, h.output, h.size, h.block⟩

/-- an integer's box holds no words -/
theorem Two.apart {w : World} {b b' off : Nat} {p : Bool} {A : Option Addr} {n c : Nat} {x : Int} (h : Two w b (.bool p) (.slice A n c)) (hc : w.cell? ⟨b', off, none⟩ = some (.int .u32 x)) : b' ≠ b := by
  intro e
  subst e
  obtain ⟨T, h⟩ := h.blk
  rw [cell_of_row w b' off _ _ _ h] at hc
  match off with
  | 0 => simp at hc
  | 1 => simp at hc
  | k + 2 => simp at hc
theorem Sl.put {w : World} {B : Nat} {A : Option Addr} {c : Nat} {ws : List Nat} (h : Sl w B A c ws) {b : Nat} {p : Bool} {A' : Option Addr} {n' c' : Nat} (ht : Two w b (.bool p) (.slice A' n' c')) (u v : Value) :
    Sl ((w.setCell ⟨b, 0, none⟩ u).setCell ⟨b, 1, none⟩ v) B A c ws := by
  refine ⟨⟨⟨fun hn => ?_⟩⟩, h.wd, h.cap, h.nil0⟩
  obtain ⟨g, off, e, hb, hc⟩ := h.nums.row.cells hn
  refine ⟨g, off, e, hb, fun k u' hu => ?_⟩
  have hk := hc k u' hu
  obtain ⟨x, hx⟩ : ∃ x : Nat, u' = .int .u32 (x : Int) := by
    rw [List.getElem?_map] at hu
    cases hh : ws[k]? with
    | none => rw [hh] at hu; cases hu
    | some y => rw [hh] at hu; exact ⟨y, by injection hu with hu; exact hu.symm⟩
  subst hx
  have hne := ht.apart hk
  rw [World.cell?_setCell_other _ _ _ _ (fun e => hne (Addr.mk.inj e).1.symm), World.cell?_setCell_other _ _ _ _ (fun e => hne (Addr.mk.inj e).1.symm)]
  exact hk

/-- a call's world with an argument's box and the result's -/
structure B2 (w wr : World) (neg : Bool) (A : Option Addr) (n c : Nat) : Prop where
  t1 : Two wr w.heap.size (.bool neg) (.slice A n c)
  t2 : Two wr (w.heap.size + 1) (.bool false) (.slice none 0 0)
  bel : Below w.heap.size w wr
section
variable {w wr wx : World} {neg : Bool} {A : Option Addr} {n c : Nat}
theorem B2.below (h : B2 w wr neg A n c) (hb : Below wr.heap.size wr wx) : B2 w wx neg A n c := ⟨h.t1.below hb h.t1.lt, h.t2.below hb h.t2.lt, h.bel.trans (hb.mono h.bel.size)⟩
theorem B2.drew (h : B2 w wr neg A n c) : B2 w wr.drew neg A n c := ⟨h.t1.drew, h.t2.drew, bDrew1 h.bel⟩
theorem B2.new_ (w : World) (neg : Bool) (A : Option Addr) (n c : Nat) (T T' : TypeId) : B2 w ((w.alloc (.cells #[.bool neg, .slice A n c] T)).alloc (.cells #[.bool false, .slice none 0 0] T')) neg A n c :=
  ⟨(Two.new_ _ _ _ _).alloc _, by simpa using Two.new_ (w.alloc (.cells #[.bool neg, .slice A n c] T)) (.bool false) (.slice none 0 0) T', ((Below.refl _ _).alloc (Nat.le_refl _) _).alloc (by simp) _⟩
/-- what is handed back through the result's box -/
theorem B2.fin (h : B2 w wr neg A n c) {z : Int} {A' : Option Addr} {c' : Nat} (hs : Sl wr wr.heap.size A' c' (Kn.dig z.natAbs)) :
    IntRes z w (.returned (intV (decide (z < 0)) A' (Kn.dig z.natAbs).length c')) ((wr.setCell ⟨w.heap.size + 1, 0, none⟩ (.bool (decide (z < 0)))).setCell ⟨w.heap.size + 1, 1, none⟩ (.slice A' (Kn.dig z.natAbs).length c')) := by
  refine ⟨A', c', rfl, ?_, ?_⟩
  · have := hs.put h.t2 (.bool (decide (z < 0))) (.slice A' (Kn.dig z.natAbs).length c')
    exact this.more (by simp [World.setCell])
  · exact (h.bel.setCell (p := ⟨w.heap.size + 1, 0, none⟩) (by simp) _).setCell (p := ⟨w.heap.size + 1, 1, none⟩) (by simp) _
end

theorem iv_trim (neg : Bool) (ws : List Nat) : Kn.iv neg (Kn.dig (Kn.val ws)) = Kn.iv neg ws := by unfold Kn.iv; rw [Kn.val_dig]

set_option maxRecDepth 100000 in
set_option maxHeartbeats 400000 in
theorem clean_any (neg : Bool) (A : Option Addr) (c : Nat) (ws : List Nat) (w : World) (h : Sl w w.heap.size A c ws) (hl : ws.length ≤ 1000000000) :
    Calls Tryd.prog 15 #[intV neg A ws.length c] w (IntRes (Kn.iv neg ws) w) := by
  have hdl : (Kn.dig (Kn.val ws)).length ≤ 1000000000 := Nat.le_trans (Kn.dig_len_val h.wd) hl
  unfold intV
  go_enter Tryd.func15, Tryd.ntmps15
  go_wp2_with fail
  have i := B2.new_ w neg A ws.length c 24 24
  revert i
  generalize (w.alloc (.cells #[.bool neg, .slice A ws.length c] 24)).alloc (.cells #[.bool false, .slice none 0 0] 24) = wx
  intro i
  replace i := i.drew
  have hX := (h.below i.bel).more i.bel.size
  go_region_held3 (fun w' => w'.cell? ⟨w.heap.size, 0, none⟩ = some (.bool neg) ∧ w'.cell? ⟨w.heap.size, 1, none⟩ = some (.slice A ws.length c))
    (first | exact ⟨i.t1.c0, i.t1.c1⟩ | exact ⟨((i.t1.far (by simp) _).far (by simp) _).c0, ((i.t1.far (by simp) _).far (by simp) _).c1⟩)
    (first
      | (go_at_call 25; refine (trim_any A c ws _ _ hX hl).mono ?_; rintro e w' ⟨rfl, rfl⟩)
      | (go_at_call 39; refine (clone_any A c _ _ hX.trim hdl).mono ?_; rintro e w2 ⟨A2, c2, rfl, hS2, hb2⟩; replace i := i.below hb2)
      | (go_at_call 29; refine (signed_any neg A2 c2 _ _ hS2 hdl).mono ?_; rintro e w3 ⟨A3, c3, rfl, hS3, hb3⟩; replace i := i.below hb3; have d20 := i.t2.c0; have d21 := i.t2.c1; have f20 := i.t2.fr 0; have f21 := i.t2.fr 1))
  rw [iv_trim] at hS3
  obtain ⟨r0, r1⟩ := two_set w3 (.bool (decide (Kn.iv neg ws < 0))) (.slice A3 (Kn.dig (Kn.iv neg ws).natAbs).length c3) d20 d21
  rw [iv_trim]
  clear d20 d21 f20 f21
  go_wp2_with fail
  refine bodyPost_ret (v := .agg #[.bool (decide (Kn.iv neg ws < 0)), .slice A3 (Kn.dig (Kn.iv neg ws).natAbs).length c3]) (by simp [results, Tryd.results15, go_sem, r0, r1]) rfl ?_
  exact i.fin hS3
set_option maxRecDepth 100000 in
set_option maxHeartbeats 400000 in
theorem abs_any (neg : Bool) (A : Option Addr) (c : Nat) (ws : List Nat) (w : World) (h : Sl w w.heap.size A c ws) (hl : ws.length ≤ 1000000000) :
    Calls Tryd.prog 17 #[intV neg A ws.length c] w (IntRes (Kn.iv false ws) w) := by
  have hdl : (Kn.dig (Kn.val ws)).length ≤ 1000000000 := Nat.le_trans (Kn.dig_len_val h.wd) hl
  unfold intV
  go_enter Tryd.func17, Tryd.ntmps17
  go_wp2_with fail
  have i := B2.new_ w neg A ws.length c 24 24
  revert i
  generalize (w.alloc (.cells #[.bool neg, .slice A ws.length c] 24)).alloc (.cells #[.bool false, .slice none 0 0] 24) = wx
  intro i
  have hX := (h.below i.bel).more i.bel.size
  have c10 := i.t1.c0
  have c11 := i.t1.c1
  go_wp2_with fail
  refine (trim_any A c ws _ _ hX hl).mono ?_
  rintro e w' ⟨rfl, rfl⟩
  go_wp2_with fail
  refine (clone_any A c _ _ hX.trim hdl).mono ?_
  rintro e w2 ⟨A2, c2, rfl, hS2, hb2⟩
  replace i := i.below hb2
  clear c10 c11
  go_wp2_with fail
  refine (signed_any false A2 c2 _ _ hS2 hdl).mono ?_
  rintro e w3 ⟨A3, c3, rfl, hS3, hb3⟩
  replace i := i.below hb3
  have d20 := i.t2.c0
  have d21 := i.t2.c1
  have f20 := i.t2.fr 0
  have f21 := i.t2.fr 1
  rw [iv_trim] at hS3
  have R := two_set w3 (.bool (decide (Kn.iv false ws < 0))) (.slice A3 (Kn.dig (Kn.iv false ws).natAbs).length c3) d20 d21
  rw [iv_trim]
  have R := Lib.hid R
  go_wp2_with fail
  obtain ⟨r0, r1⟩ := R.out
  refine bodyPost_ret (v := .agg #[.bool (decide (Kn.iv false ws < 0)), .slice A3 (Kn.dig (Kn.iv false ws).natAbs).length c3]) (by simp [results, Tryd.results17, go_sem, r0, r1]) rfl ?_
  exact i.fin hS3
end Go.Proofs.YtmhfdmidaheoeaaDoor
