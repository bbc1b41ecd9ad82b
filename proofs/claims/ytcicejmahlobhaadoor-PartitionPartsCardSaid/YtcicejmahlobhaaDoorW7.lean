/- Walks: the closure that finds a root. -/
import Derived.Test.YtcicejmahlobhaaDoorW6
import Derived.Deep.RegionWith
import Derived.Deep.RegionHeld3
namespace Go.Proofs.YtcicejmahlobhaaDoor
open Go.RowKit Go.Maps
set_option linter.unusedVariables false

/-- links as numbers -/
def zN (L : List Nat) : List Int := L.map fun (x : Nat) => (x : Int)
theorem zN_length (L : List Nat) : (zN L).length = L.length := by simp [zN]
theorem zN_get (L : List Nat) (k : Nat) (hk : k < L.length) : (zN L).getD k 0 = ((L.getD k 0 : Nat) : Int) := Kp.map_get L k hk
theorem zN_set (L : List Nat) (k x : Nat) : (zN L).set k (x : Int) = zN (L.set k x) := by simp [zN, List.map_set]

/-- a box with one value -/
def Box (w : World) (b : Nat) (x : Value) : Prop := w.heap[b]? = some (.cells #[x] 33 (0, 0))
theorem Box.lt {w : World} {b : Nat} {x : Value} (h : Box w b x) : b < w.heap.size := (Array.getElem?_eq_some_iff.1 h).1
theorem Box.cell {w : World} {b : Nat} {x : Value} (h : Box w b x) : w.cell? ⟨b, 0, none⟩ = some x := by rw [cell_of_row w b 0 _ _ _ h]; rfl
theorem Box.frozen {w : World} {b : Nat} {x : Value} (h : Box w b x) : w.frozen? ⟨b, 0, none⟩ = false := frozen_of_row w b 0 _ _ h
theorem Box.grown {w w' : World} {b : Nat} {x : Value} {row : Option Nat} (h : Box w b x) (hg : w.grownBy w' row) (hne : some b ≠ row) : Box w' b x := (hg.block b h.lt hne).trans h
theorem Box.below {w w' : World} {b B : Nat} {x : Value} (h : Box w b x) (hb : Below B w w') (hlt : b < B) : Box w' b x := (hb.block b hlt).trans h

theorem grown_refl (w : World) (row : Option Nat) : w.grownBy w row := ⟨rfl, rfl, rfl, Nat.le_refl _, fun _ _ _ => rfl⟩
theorem grown_trans {w w1 w2 : World} {row : Option Nat} (h1 : w.grownBy w1 row) (h2 : w1.grownBy w2 row) : w.grownBy w2 row :=
  ⟨h2.os.trans h1.os, h2.tape.trans h1.tape, h2.output.trans h1.output, Nat.le_trans h1.size h2.size, fun k hk hne => (h2.block k (Nat.lt_of_lt_of_le hk h1.size) hne).trans (h1.block k hk hne)⟩
theorem grown_set (w : World) (g k : Nat) (u : Value) : w.grownBy (w.setCell ⟨g, k, none⟩ u) (some g) := setCell_grown w ⟨g, k, none⟩ u
theorem grown_drew {w w' : World} {row : Option Nat} (h : w.grownBy w' row) : w.grownBy w'.drew row := ⟨h.os, h.tape, h.output, h.size, h.block⟩

namespace Kp
theorem Fo.two {L : List Nat} {m : Nat} {r d : Nat → Nat} (h : Fo L m r d) {c : Nat} (hc : c < m) (hn : L.getD c 0 ≠ c) : L.getD (L.getD c 0) 0 < m ∧ d (L.getD (L.getD c 0) 0) < d c ∧ r (L.getD (L.getD c 0) 0) = r c := by
  have h1 := h.lt c hc
  have h2 := h.lt _ h1
  have a := h.dec c hc hn
  refine ⟨h2, ?_, by rw [h.step _ h1, h.step _ hc]⟩
  by_cases e : L.getD (L.getD c 0) 0 = L.getD c 0
  · rw [e]; exact a
  · have := h.dec _ h1 e; omega
end Kp

/-- the links in memory -/
structure Rt (wx wr : World) (g m : Nat) (r d : Nat → Nat) (L : List Nat) : Prop where
  fo : Kp.Fo L m r d
  row : IBlk wr g (zN L)
  gr : wx.grownBy wr (some g)
theorem Rt.cell {wx wr : World} {g m : Nat} {r d : Nat → Nat} {L : List Nat} (h : Rt wx wr g m r d L) {c : Nat} (hc : c < m) : wr.cell? ⟨g, c, none⟩ = some (.int .i64 ((L.getD c 0 : Nat) : Int)) := by
  have hl : c < L.length := by rw [h.fo.len]; exact hc
  rw [h.row.cell (by rw [zN_length]; exact hl), zN_get _ _ hl]
theorem Rt.skip {wx wr : World} {g m : Nat} {r d : Nat → Nat} {L : List Nat} (h : Rt wx wr g m r d L) {c : Nat} (hc : c < m) (hn : L.getD c 0 ≠ c) :
    Rt wx (wr.setCell ⟨g, c, none⟩ (.int .i64 ((L.getD (L.getD c 0) 0 : Nat) : Int))).drew g m r d (L.set c (L.getD (L.getD c 0) 0)) where
  fo := h.fo.skip hc hn
  row := by rw [← zN_set]; exact (h.row.set_ c _).drew
  gr := grown_drew (grown_trans h.gr (grown_set _ _ _ _))

set_option maxRecDepth 100000 in
set_option maxHeartbeats 2000000 in
theorem root_any (bx g m : Nat) (r d : Nat → Nat) (L : List Nat) (c : Nat) (w : World) (hbox : Box w bx (.slice (some ⟨g, 0, none⟩) m m)) (hrow : IBlk w g (zN L)) (hF : Kp.Fo L m r d) (hne : bx ≠ g) (hc : c < m) (hm : m ≤ 1000000) :
    Calls Tryd.prog 66 #[.int .i64 (c : Int), .pointer (some ⟨bx, 0, none⟩)] w fun e w' => e = .returned (.int .i64 ((r c : Nat) : Int)) ∧ ∃ L', Rt w w' g m r d L' := by
  go_enter Tryd.func66, Tryd.ntmps66
  go_wp2_with fail
  go_loopw [0] (fun cv wr => ∃ (x : Nat) (L' : List Nat), x < m ∧ cv = .int .i64 x ∧ Hid (r x = r c) ∧ Rt w wr g m r d L') (fun cv _ => d (intOf cv).toNat)
  case atStart => exact ⟨c, L, hc, rfl, Lib.hid rfl, hF, hrow, grown_refl _ _⟩
  case round =>
    obtain ⟨x, L', hx, rfl, hrx, R⟩ := hrel
    have cb := (hbox.grown R.gr (by simpa using hne)).cell
    have c1 := R.cell hx
    obtain ⟨y, hy⟩ : ∃ y, Hid (L'.getD x 0 = y) := ⟨_, Lib.hid rfl⟩
    rw [hy.out] at c1
    have hym : y < m := by rw [← hy.out]; exact R.fo.lt x hx
    by_cases hyx : y = x
    · have hR : Hid (x = r c) := Lib.hid (by rw [← hrx.out, R.fo.self x hx (by rw [hy.out]; exact hyx)])
      subst hyx
      go_wp2_with fail
      go_ret
      exact ⟨ret_int (by rw [← hR.out]), L', R⟩
    · have hn : L'.getD x 0 ≠ x := by rw [hy.out]; exact hyx
      obtain ⟨z, hz⟩ : ∃ z, Hid (L'.getD y 0 = z) := ⟨_, Lib.hid rfl⟩
      have c2 := R.cell hym
      rw [hz.out] at c2
      obtain ⟨hzm, hdz, hrz⟩ := R.fo.two hx hn
      have R2 := R.skip hx hn
      rw [hy.out, hz.out] at hzm hdz hrz R2
      have cb2 := (hbox.grown R2.gr (by simpa using hne)).cell
      have hne1 : ((y : Int) != (x : Int)) = true := by simp; omega
      have hne2 : (y != x) = true := by simp; omega
      have hfg := R.row.frozen x
      have hym' : (y : Int) < (m : Int) := by omega
      have hxm' : (x : Int) < (m : Int) := by omega
      have hrz' := Lib.hid hrz
      clear hn hyx hrz
      go_wp2_with fail
      go_region
      have c3 := R2.cell hx
      have hgl : (L'.set x z).getD x 0 = z := by rw [Kp.getD_setN _ _ _ _ (by rw [R.fo.len]; exact hx), if_pos rfl]
      rw [hgl] at c3
      have hrx' := Lib.hid (hrz'.out.trans hrx.out)
      clear c1 c2 cb hfg R hgl hne1 hne2
      revert R2 cb2 c3
      generalize (wr.setCell ⟨g, x, none⟩ (.int .i64 (z : Int))).drew = wx
      intro R2 cb2 c3
      go_wp2_with fail
      go_roundw
      case rel => exact ⟨z, _, hzm, rfl, hrx', R2⟩
      case measure => simp [intOf]; exact hdz
end Go.Proofs.YtcicejmahlobhaaDoor
