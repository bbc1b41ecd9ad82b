/- Walks: copied of package types; the declared types in a map; replaced. -/
import Derived.Test.YtlifnabeilnblaaGreatDoorRb
import Derived.Test.YtlifnabeilnblaaGreatDoorAw
namespace Go.Proofs.YtlifnabeilnblaaGreatDoor
open Go.RowKit Go.Sort Go.Maps
set_option linter.unusedVariables false

theorem G.rb_bare (e : G) : e.rb G.bare = e.bare := by rw [G.bare_eq]; rfl
/-- the contract of copied -/
def CoE (e : G) : Prop := ∀ w : World, G.In w w.heap.size e → Sm e → Calls Tryz.prog 20 #[e.val] w (NewT e.bare w)
/-- the boxes of a function that has a type and hands one back -/
theorem AnZ.out {w wr w3 : World} {e x : G} (h : AnZ w wr e) (hb : Below wr.heap.size wr w3) (hx : G.InS w3 (New wr) x) :
    G.InS (((((((w3.setCell ⟨w.heap.size + 1, 0, none⟩ (.int .i64 x.kd)).setCell ⟨w.heap.size + 1, 1, none⟩ (.int .i64 x.lo)).setCell ⟨w.heap.size + 1, 2, none⟩ (.int .i64 x.hi)).setCell ⟨w.heap.size + 1, 3, none⟩ (.int .i64 x.sz)).setCell ⟨w.heap.size + 1, 4, none⟩ (.string x.nm)).setCell ⟨w.heap.size + 1, 5, none⟩ (.slice x.na x.ns.length x.nc)).setCell ⟨w.heap.size + 1, 6, none⟩ (.slice x.ad x.ks.length x.cap)) (New w) x
    ∧ Below w.heap.size w (((((((w3.setCell ⟨w.heap.size + 1, 0, none⟩ (.int .i64 x.kd)).setCell ⟨w.heap.size + 1, 1, none⟩ (.int .i64 x.lo)).setCell ⟨w.heap.size + 1, 2, none⟩ (.int .i64 x.hi)).setCell ⟨w.heap.size + 1, 3, none⟩ (.int .i64 x.sz)).setCell ⟨w.heap.size + 1, 4, none⟩ (.string x.nm)).setCell ⟨w.heap.size + 1, 5, none⟩ (.slice x.na x.ns.length x.nc)).setCell ⟨w.heap.size + 1, 6, none⟩ (.slice x.ad x.ks.length x.cap)) := by
  have hg := seven_grown w3 (w.heap.size + 1) (.int .i64 x.kd) (.int .i64 x.lo) (.int .i64 x.hi) (.int .i64 x.sz) (.string x.nm) (.slice x.na x.ns.length x.nc) (.slice x.ad x.ks.length x.cap)
  revert hg
  generalize ((((((w3.setCell ⟨w.heap.size + 1, 0, none⟩ (.int .i64 x.kd)).setCell ⟨w.heap.size + 1, 1, none⟩ (.int .i64 x.lo)).setCell ⟨w.heap.size + 1, 2, none⟩ (.int .i64 x.hi)).setCell ⟨w.heap.size + 1, 3, none⟩ (.int .i64 x.sz)).setCell ⟨w.heap.size + 1, 4, none⟩ (.string x.nm)).setCell ⟨w.heap.size + 1, 5, none⟩ (.slice x.na x.ns.length x.nc)).setCell ⟨w.heap.size + 1, 6, none⟩ (.slice x.ad x.ks.length x.cap) = w7
  intro hg
  have hs := h.size
  have h3 := hb.size
  refine ⟨hx.keep (fun p hp hlt => World.cell?_of_block (w := w3) (hg.block _ hlt (by
    intro e
    have e' : p.block = w.heap.size + 1 := by simpa using e
    have : wr.heap.size ≤ p.block := hp
    omega))) (fun b hb2 hlt => by have : wr.heap.size ≤ b := hb2; show w.heap.size ≤ b; omega) hg.size, ?_⟩
  exact (bTrans h.bel hb).grown hg (by have := h.bel.size; omega) (fun k e => by cases e; omega)
theorem box_cells {w : World} {b : Nat} {e : G} (h : Blk w b e.box) :
    w.cell? ⟨b, 0, none⟩ = some (.int .i64 e.kd) ∧ w.cell? ⟨b, 1, none⟩ = some (.int .i64 e.lo) ∧ w.cell? ⟨b, 2, none⟩ = some (.int .i64 e.hi) ∧ w.cell? ⟨b, 3, none⟩ = some (.int .i64 e.sz) ∧ w.cell? ⟨b, 4, none⟩ = some (.string e.nm) ∧ w.cell? ⟨b, 5, none⟩ = some (.slice e.na e.ns.length e.nc) ∧ w.cell? ⟨b, 6, none⟩ = some (.slice e.ad e.ks.length e.cap) :=
  ⟨h.c 0 rfl, h.c 1 rfl, h.c 2 rfl, h.c 3 rfl, h.c 4 rfl, h.c 5 rfl, h.c 6 rfl⟩
theorem box_zero {w : World} {b : Nat} (h : Blk w b zbox) :
    w.cell? ⟨b, 0, none⟩ = some (.int .i64 0) ∧ w.cell? ⟨b, 1, none⟩ = some (.int .i64 0) ∧ w.cell? ⟨b, 2, none⟩ = some (.int .i64 0) ∧ w.cell? ⟨b, 3, none⟩ = some (.int .i64 0) ∧ w.cell? ⟨b, 4, none⟩ = some (.string ⟨#[]⟩) ∧ w.cell? ⟨b, 5, none⟩ = some (.slice none 0 0) ∧ w.cell? ⟨b, 6, none⟩ = some (.slice none 0 0) :=
  ⟨h.c 0 rfl, h.c 1 rfl, h.c 2 rfl, h.c 3 rfl, h.c 4 rfl, h.c 5 rfl, h.c 6 rfl⟩
set_option maxRecDepth 100000 in
set_option maxHeartbeats 1000000 in
theorem copied_any (e : G) : CoE e := by
  induction e using G.ind with
  | h e ih =>
  intro w hin hs
  have C1 := Lib.hid (fun W (i : AnZ w W e) => rebuilt_copied (J := fun _ => True) (Y := G.bare) (fun _ _ _ _ => trivial) e (fun k hk W _ hkin => ih k hk W hkin (by
    obtain ⟨j, hj, rfl⟩ := List.mem_iff_getElem.1 hk
    exact hs.kid ⟨hj, rfl⟩)) W trivial (hin.at i.bel) hs)
  have X := AnZ.start w e 26 26
  clear ih
  go_enter Tryz.func20, Tryz.ntmps20
  go_upto_region 1 with (fail)
  revert X
  generalize (w.alloc (.cells #[.int .i64 e.kd, .int .i64 e.lo, .int .i64 e.hi, .int .i64 e.sz, .string e.nm, .slice e.na e.ns.length e.nc, .slice e.ad e.ks.length e.cap] 26)).alloc (.cells zbox 26) = w1
  intro X
  obtain ⟨k0, k1, k2, k3, k4, k5, k6⟩ := box_cells X.be
  go_wp2_with fail
  refine (C1.out _ X).mono ?_
  rintro r w2 ⟨x, rfl, hx, hxb, b2⟩
  have HO := Lib.hid (X.out b2 hx)
  have X2 := X.below b2
  obtain ⟨z0, z1, z2, z3, z4, z5, z6⟩ := box_zero X2.br
  have f0 := X2.br.fr 0
  have f1 := X2.br.fr 1
  have f2 := X2.br.fr 2
  have f3 := X2.br.fr 3
  have f4 := X2.br.fr 4
  have f5 := X2.br.fr 5
  have f6 := X2.br.fr 6
  have HP := Lib.hid (box_cells (e := x) (seven_put X2.br (.int .i64 x.kd) (.int .i64 x.lo) (.int .i64 x.hi) (.int .i64 x.sz) (.string x.nm) (.slice x.na x.ns.length x.nc) (.slice x.ad x.ks.length x.cap)))
  go_wp2_with fail
  obtain ⟨r0, r1, r2, r3, r4, r5, r6⟩ := HP.out
  refine bodyPost_ret (v := x.val) (by simp [results, Tryz.results20, go_sem, r0, r1, r2, r3, r4, r5, r6]) rfl ⟨x, rfl, (HO.out).1, by rw [hxb, G.rb_bare], (HO.out).2⟩
end Go.Proofs.YtlifnabeilnblaaGreatDoor
