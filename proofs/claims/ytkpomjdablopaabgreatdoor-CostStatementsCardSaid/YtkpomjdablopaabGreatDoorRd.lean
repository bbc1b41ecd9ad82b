/- Walks: CheckExpr of the reference. -/
import Derived.Test.YtkpomjdablopaabGreatDoorRc
import Derived.Test.YtkpomjdablopaabGreatDoorCg
import Derived.Deep.RegionWith
namespace Go.Proofs.YtkpomjdablopaabGreatDoor
open Go.RowKit Go.Sort
set_option linter.unusedVariables false

abbrev szV (n d : Nat) : Value := .agg #[.int .i64 (n : Int), .int .i64 (d : Int)]
theorem two_put {w : World} {b : Nat} {x y : Value} (h : Blk w b #[x, y]) (u v : Value) : Blk ((w.setCell ⟨b, 0, none⟩ u).setCell ⟨b, 1, none⟩ v) b #[u, v] := (h.put 0 u).put 1 v
theorem c2 {w : World} {b : Nat} {x y : Value} (h : Blk w b #[x, y]) : w.cell? ⟨b, 0, none⟩ = some x ∧ w.cell? ⟨b, 1, none⟩ = some y := ⟨h.c 0 rfl, h.c 1 rfl⟩
/-- the boxes of deeper: the size, the result -/
structure DeW (w wr : World) (n d : Nat) : Prop where
  bs : Blk wr w.heap.size #[.int .i64 (n : Int), .int .i64 (d : Int)]
  br : Blk wr (w.heap.size + 1) #[.int .i64 0, .int .i64 0]
  bel : Below w.heap.size w wr
theorem DeW.start (w : World) (n d : Nat) (T T' : TypeId) : DeW w ((w.alloc (.cells #[.int .i64 (n : Int), .int .i64 (d : Int)] T)).alloc (.cells #[.int .i64 0, .int .i64 0] T')) n d :=
  ⟨(Blk.new_ _ _ _).alloc _, by
    have := Blk.new_ (w.alloc (.cells #[.int .i64 (n : Int), .int .i64 (d : Int)] T)) #[.int .i64 0, .int .i64 0] T'
    rwa [World.size_alloc] at this, (al1 w _).alloc (by simp) _⟩
set_option maxRecDepth 100000 in
set_option maxHeartbeats 1000000 in
theorem deeper_any (n d k : Nat) (w : World) : Calls Tryz.prog 66 #[szV n d, .int .i64 (k : Int)] w fun r w' => r = .returned (szV n (max d k)) ∧ Below w.heap.size w w' := by
  have X := DeW.start w n d 72 72
  obtain ⟨m, hm⟩ : ∃ m, Hid (max d k = m) := ⟨_, Lib.hid rfl⟩
  rw [hm.out]
  go_enter Tryz.func66, Tryz.ntmps66
  go_upto_region 1 with (fail)
  revert X
  generalize (w.alloc (.cells #[.int .i64 (n : Int), .int .i64 (d : Int)] 72)).alloc (.cells #[.int .i64 0, .int .i64 0] 72) = w1
  intro X
  obtain ⟨c0, c1⟩ := c2 X.bs
  have f0 := X.bs.fr 0
  have f1 := X.bs.fr 1
  obtain ⟨e0, e1⟩ := c2 X.br
  have g0 := X.br.fr 0
  have g1 := X.br.fr 1
  have hlt := X.br.lt
  by_cases h : d < k
  · obtain rfl : m = k := by have := hm.out; omega
    clear hm
    have s0 := X.bs.put 1 (.int .i64 (m : Int))
    obtain ⟨i0, i1⟩ := c2 (x := .int .i64 (n : Int)) (y := .int .i64 (m : Int)) s0
    go_wp2_with fail
    obtain ⟨r0, r1⟩ := c2 (two_put (X.br.far (p := ⟨w.heap.size, 1, none⟩) (by simp) (.int .i64 (m : Int))) (.int .i64 (n : Int)) (.int .i64 (m : Int)))
    refine bodyPost_ret (v := szV n m) (by simp [results, Tryz.results66, go_sem, r0, r1]) rfl ⟨rfl, ?_⟩
    exact ((X.bel.setCell (p := ⟨w.heap.size, 1, none⟩) (by simp) _).setCell (p := ⟨w.heap.size + 1, 0, none⟩) (by simp) _).setCell (p := ⟨w.heap.size + 1, 1, none⟩) (by simp) _
  · obtain rfl : m = d := by have := hm.out; omega
    clear hm
    go_wp2_with fail
    obtain ⟨r0, r1⟩ := c2 (two_put X.br (.int .i64 (n : Int)) (.int .i64 (m : Int)))
    refine bodyPost_ret (v := szV n m) (by simp [results, Tryz.results66, go_sem, r0, r1]) rfl ⟨rfl, ?_⟩
    exact (X.bel.setCell (p := ⟨w.heap.size + 1, 0, none⟩) (by simp) _).setCell (p := ⟨w.heap.size + 1, 1, none⟩) (by simp) _
/-- the verdict -/
def vdC (n d : Nat) (f m u : Bool) : Int := if 1024 < n ∨ 12 < d then 4 else if !f then 1 else if !m then 7 else if !u then 3 else 0
set_option maxRecDepth 100000 in
set_option maxHeartbeats 1000000 in
theorem verdict_any (n d : Nat) (f m u : Bool) (w : World) : Calls Tryz.prog 55 #[szV n d, .bool f, .bool m, .bool u] w fun r w' => r = .returned (.int .i64 (vdC n d f m u)) ∧ Below w.heap.size w w' := by
  obtain ⟨z, hz⟩ : ∃ z, Hid (z = vdC n d f m u) := ⟨_, Lib.hid rfl⟩
  rw [← hz.out]
  by_cases h1 : 1024 < n
  · have HR : Hid (4 = z) := Lib.hid (by rw [hz.out]; unfold vdC; rw [if_pos (.inl h1)])
    go_enter Tryz.func55, Tryz.ntmps55
    go_wp2_with fail
    go_ret
    exact ⟨ret_int HR.out, al1 _ _⟩
  by_cases h2 : 12 < d
  · have HR : Hid (4 = z) := Lib.hid (by rw [hz.out]; unfold vdC; rw [if_pos (.inr h2)])
    go_enter Tryz.func55, Tryz.ntmps55
    go_wp2_with fail
    go_ret
    exact ⟨ret_int HR.out, al1 _ _⟩
  have HZ : Hid (z = if !f then 1 else if !m then 7 else if !u then 3 else 0) := Lib.hid (by rw [hz.out]; unfold vdC; rw [if_neg (by omega)])
  cases f
  all_goals cases m
  all_goals cases u
  all_goals
    have HR := HZ.out
    simp only [Bool.not_false, Bool.not_true, if_true, Bool.false_eq_true, if_false] at HR
    have HR2 := Lib.hid HR.symm
    clear HR hz
    go_enter Tryz.func55, Tryz.ntmps55
    go_wp2_with fail
    go_ret
    exact ⟨ret_int HR2.out, al1 _ _⟩
/-- the boxes of addExpr: the size, the expression, the result -/
structure AxW (w wr : World) (e : E) (n : Nat) : Prop where
  bs : Blk wr w.heap.size #[.int .i64 (n : Int), .int .i64 0]
  be : Blk wr (w.heap.size + 1) e.box
  br : Blk wr (w.heap.size + 2) #[.int .i64 0, .int .i64 0]
  bel : Below w.heap.size w wr
theorem AxW.start (w : World) (e : E) (T T' T'' : TypeId) : AxW w (((w.alloc (.cells #[.int .i64 0, .int .i64 0] T)).alloc (.cells e.box T')).alloc (.cells #[.int .i64 0, .int .i64 0] T'')) e 0 :=
  ⟨((Blk.new_ _ _ _).alloc _).alloc _, by
    have := (Blk.new_ (w.alloc (.cells #[.int .i64 0, .int .i64 0] T)) e.box T').alloc (.cells #[.int .i64 0, .int .i64 0] T'')
    rwa [World.size_alloc] at this, by
    have := Blk.new_ ((w.alloc (.cells #[.int .i64 0, .int .i64 0] T)).alloc (.cells e.box T')) #[.int .i64 0, .int .i64 0] T''
    rwa [World.size_alloc, World.size_alloc] at this, ((al1 w _).alloc (by simp) _).alloc (by simp; omega) _⟩
theorem AxW.below {w wr w' : World} {e : E} {n : Nat} (h : AxW w wr e n) (hb : Below wr.heap.size wr w') : AxW w w' e n := ⟨h.bs.below hb h.bs.lt, h.be.below hb h.be.lt, h.br.below hb h.br.lt, bTrans h.bel hb⟩
theorem AxW.drew {w wr : World} {e : E} {n : Nat} (h : AxW w wr e n) : AxW w wr.drew e n := h.below (show Below wr.heap.size wr wr.drew from (Below.refl _ _).drew)
theorem AxW.put {w wr : World} {e : E} {n : Nat} (h : AxW w wr e n) (m : Nat) : AxW w (wr.setCell ⟨w.heap.size, 0, none⟩ (.int .i64 (m : Int))) e m :=
  ⟨h.bs.put 0 _, h.be.far (by simp) _, h.br.far (by simp) _, h.bel.setCell (by simp) _⟩
/-- the size with the nodes in it -/
def AxM (w : World) (e : E) (n : Nat) (w' : World) : Prop := AxW w w' e n
def AxE (w : World) (n d : Nat) (w' : World) : Prop := Blk w' (w.heap.size + 2) #[.int .i64 (n : Int), .int .i64 (d : Int)] ∧ Below w.heap.size w w'
set_option maxRecDepth 100000 in
set_option maxHeartbeats 1000000 in
theorem addExpr_any (e : E) (w : World) (hin : E.In w w.heap.size e) (hn : e.nodes ≤ 1000000) : Calls Tryz.prog 56 #[.agg #[.int .i64 0, .int .i64 0], e.val, .bool true] w fun r w' => r = .returned (szV e.nodes e.dep) ∧ Below w.heap.size w w' := by
  have X := AxW.start w e 72 27 72
  obtain ⟨n, hnn⟩ : ∃ n, Hid (e.nodes = n) := ⟨_, Lib.hid rfl⟩
  obtain ⟨d, hd⟩ : ∃ d, Hid (e.dep = d) := ⟨_, Lib.hid rfl⟩
  rw [hnn.out, hd.out]
  go_enter Tryz.func56, Tryz.ntmps56
  go_upto_region 1 with (fail)
  revert X
  generalize ((w.alloc (.cells #[.int .i64 0, .int .i64 0] 72)).alloc (.cells #[.int .i64 e.op, .int .i64 e.n, .string e.nm, .slice e.ad e.ks.length e.cap] 27)).alloc (.cells #[.int .i64 0, .int .i64 0] 72) = w1
  intro X
  go_upto_region 3 with (fail)
  replace X := X.drew
  obtain ⟨c0, c1⟩ := c2 (x := .int .i64 0) X.bs
  obtain ⟨e0, e1, e2, e3⟩ := e4 X.be
  have f0 := X.bs.fr 0
  have hnb : n ≤ 1000000 := by rw [← hnn.out]; exact hn
  have hwn : IntKind.i64.wrap (n : Int) = (n : Int) := IntWalk.i64_in _ (by omega)
  go_cut [17] (fun s17 wx => s17 = .int .i64 (n : Int) ∧ AxM w e n wx)
  case first =>
    go_region_with ((go_at_call 65; refine (rnodes_any e _ (hin.at X.bel) hn).mono ?_; rintro r w3 ⟨rfl, hb3⟩; rw [hnn.out]; have Y := X.below hb3; obtain ⟨d0, d1⟩ := c2 (x := .int .i64 0) Y.bs; have g0 := Y.bs.fr 0))
    all_goals
      go_wp2_with fail
      go_meet
      exact ⟨rfl, Y.put n⟩
  case rest =>
    obtain ⟨rfl, hx⟩ := hcut
    have Z : AxW w wc e n := hx
    clear hx X c0 c1 e0 e1 e2 e3 f0 hwn
    replace Z := Z.drew
    obtain ⟨c0, c1⟩ := c2 Z.bs
    obtain ⟨e0, e1, e2, e3⟩ := e4 Z.be
    obtain ⟨r0, r1⟩ := c2 Z.br
    have f0 := Z.br.fr 0
    have f1 := Z.br.fr 1
    have hmx : Hid (max 0 d = d) := Lib.hid (by omega)
    go_upto_region 4 with (fail)
    go_cut [23] (fun s23 wx => s23 = szV n d ∧ AxE w n d wx)
    case first =>
      go_region_with (first
        | (go_at_call 67; refine (rdepth_any e _ (hin.at Z.bel) hn).mono ?_; rintro r w3 ⟨rfl, hb3⟩; rw [hd.out]; have Y := Z.below hb3; obtain ⟨d0, d1⟩ := c2 Y.bs; obtain ⟨s0, s1⟩ := c2 Y.br; have g0 := Y.br.fr 0; have g1 := Y.br.fr 1)
        | (go_at_call 66; refine (deeper_any n 0 d _).mono ?_; rintro r w4 ⟨rfl, hb4⟩; rw [hmx.out]; have V := Y.below hb4; obtain ⟨v0, v1⟩ := c2 V.br; have h0 := V.br.fr 0; have h1 := V.br.fr 1))
      all_goals
        go_wp2_with fail
        go_meet
        exact ⟨rfl, two_put V.br _ _, (V.bel.setCell (p := ⟨w.heap.size + 2, 0, none⟩) (by simp) _).setCell (p := ⟨w.heap.size + 2, 1, none⟩) (by simp) _⟩
    case rest =>
      obtain ⟨rfl, hx2⟩ := hcut
      obtain ⟨z0, z1⟩ := c2 hx2.1
      have b2 := hx2.2
      clear Z c0 c1 e0 e1 e2 e3 r0 r1 f0 f1
      go_wp2_with fail
      exact bodyPost_ret (v := szV n d) (by simp [results, Tryz.results56, go_sem, z0, z1]) rfl ⟨rfl, b2⟩
end Go.Proofs.YtkpomjdablopaabGreatDoor
