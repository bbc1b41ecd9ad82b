/- The law BitsetCombines, walked; the reference's Complement. -/
import Derived.Test.YtcfgeggfcnkckaaDoorWq
import Derived.Test.YtcfgeggfcnkckaaDoorLawBuilds
namespace Go.Proofs.YtcfgeggfcnkckaaDoor
open Go.RowKit Go.Sort
set_option linter.unusedVariables false

set_option maxRecDepth 100000 in
set_option maxHeartbeats 1000000 in
theorem rcompl_ok (n : Nat) (A : Option Addr) (c : Nat) (ws : List Nat) (w : World) (h : Words w w.heap.size A ws) (hok : Kb.Ok n ws) (hn : n ≤ 4096) :
    Calls Tryd.prog 31 #[setV n A ws.length c] w (SetRes n (Kb.mkWords n (fun j => !Kb.bitAt ws j)) w) := by
  have hl : ws.length ≤ 64 := by rw [hok.len]; unfold Kb.nw; omega
  have hv : Hid (Kb.validB n ws = true) := Lib.hid ((Kb.validB_iff h.lt).2 ⟨by omega, by omega, hok⟩)
  unfold setV
  go_enter Tryd.func31, Tryd.ntmps31
  go_wp2_with fail
  have i1 := WiInv.new_ w (.int .i64 (n : Int)) (.slice A ws.length c) (.int .i64 0) (.slice none 0 0) 24 24
  refine (rvalid_any n A c ws _ ((h.below i1.bel).more i1.bel.size) (by omega)).mono ?_
  rintro e w1 ⟨rfl, hb1⟩
  have i2 := i1.below hb1
  clear i1 hb1
  rw [hv.out]
  have c10 := i2.t1.c0
  go_wp2_with fail
  refine (rall_ok n hn w1).mono ?_
  rintro e w2 ⟨A2, c2, rfl, hW2, hb2⟩
  have i3 := (i2.below hb2).alloc (.cells #[.int .i64 (n : Int), .slice A2 (Kb.mkWords n (fun _ => true)).length c2] 24)
  have z := i2.below hb2
  have x0 := z.t1.c0
  have x1 := z.t1.c1
  have xl := z.t1.lt
  have p3 := Kept.new_ (sz := n) (c := c2) hW2 24
  clear i2 hb2 hW2 c10
  obtain ⟨l2, hl2⟩ : ∃ l, Hid (l = Kb.mkWords n (fun _ => true)) := ⟨_, Lib.hid rfl⟩
  rw [← hl2.out] at i3 p3 ⊢
  unfold setV
  go_wp2_with fail
  clear z x0 x1 xl
  generalize hg : w2.alloc (.cells #[.int .i64 (n : Int), .slice A2 l2.length c2] 24) = w3 at i3 p3 ⊢
  clear hg
  have hok2 : Kb.Ok n l2 := by rw [hl2.out]; exact Kb.Ok.mk_ _ _
  refine (rcombine2_ok n A2 c2 l2 A c ws w3 p3.ws ((h.below i3.bel).more i3.bel.size) hok2 hok hn).mono ?_
  rintro e w4 ⟨A4, c4, rfl, hW4, hb4⟩
  have em : Kb.mkWords n (fun j => (fun p q => p && !q) (Kb.bitAt l2 j) (Kb.bitAt ws j)) = Kb.mkWords n (fun j => !Kb.bitAt ws j) := Kb.mkWords_congr fun j hj => by
    rw [hl2.out, Kb.bitAt_mkWords]; simp [hj]
  rw [em] at hW4 ⊢
  have i5 := i3.below hb4
  have d10 := i5.t2.c0
  have d11 := i5.t2.c1
  have f10 := i5.t2.fr 0
  have f11 := i5.t2.fr 1
  unfold setV
  go_wp2_with fail
  obtain ⟨r0, r1⟩ := two_set w4 (.int .i64 (n : Int)) (.slice A4 (Kb.mkWords n (fun j => !Kb.bitAt ws j)).length c4) d10 d11
  refine bodyPost_ret (v := .tuple #[setV n A4 (Kb.mkWords n (fun j => !Kb.bitAt ws j)).length c4, .int .i64 0]) (by simp [results, Tryd.results31, go_sem, r0, r1, setV]) rfl ?_
  exact ⟨A4, c4, rfl, (hW4.put_two i5.t2 _ _).more (by simp [World.setCell]), (i5.bel.setCell (p := ⟨w.heap.size + 1, 0, none⟩) (by simp) _).setCell (p := ⟨w.heap.size + 1, 1, none⟩) (by simp) _⟩

/-- the law's world: the boxes of a and b -/
structure DuInv (w wr : World) (x1 y1 x2 y2 : Value) : Prop where
  t1 : Two wr w.heap.size x1 y1
  t2 : Two wr (w.heap.size + 1) x2 y2
  bel : Below w.heap.size w wr
theorem DuInv.below {w wr wx : World} {x1 y1 x2 y2 : Value} (h : DuInv w wr x1 y1 x2 y2) (hb : Below wr.heap.size wr wx) : DuInv w wx x1 y1 x2 y2 := ⟨h.t1.below hb h.t1.lt, h.t2.below hb h.t2.lt, h.bel.trans (hb.mono h.bel.size)⟩
theorem DuInv.alloc {w wr : World} {x1 y1 x2 y2 : Value} (h : DuInv w wr x1 y1 x2 y2) (o : Obj) : DuInv w (wr.alloc o) x1 y1 x2 y2 := ⟨h.t1.alloc o, h.t2.alloc o, h.bel.alloc h.bel.size o⟩
theorem DuInv.new_ (w : World) (x1 y1 x2 y2 : Value) (T : TypeId) : DuInv w ((w.alloc (.cells #[x1, y1] T)).alloc (.cells #[x2, y2] T)) x1 y1 x2 y2 :=
  ⟨(Two.new_ _ _ _ _).alloc _, by simpa using Two.new_ (w.alloc (.cells #[x1, y1] T)) x2 y2 T, ((Below.refl _ _).alloc (Nat.le_refl _) _).alloc (by simp) _⟩

theorem same_refl (s : Int) (A : Option Addr) (c : Nat) (B : Option Addr) (d : Nat) (l : List Nat) (w : World) (ha : Words w w.heap.size A l) (hb : Words w w.heap.size B l) (hl : l.length ≤ 140737488351232) :
    Calls Tryd.prog 20 #[.agg #[.int .i64 s, .slice A l.length c], .agg #[.int .i64 s, .slice B l.length d]] w fun e w' => e = .returned (.bool true) ∧ Below w.heap.size w w' := by
  rw [← same_self s l]
  exact same_any s A c l s B d l w ha hb hl

set_option maxRecDepth 100000 in
set_option maxHeartbeats 4000000 in
theorem combines_core (sa : Int) (A : Option Addr) (ca : Nat) (wa : List Nat) (sb : Int) (B : Option Addr) (cb : Nat) (wb : List Nat) (s1 s2 s3 s4 c1 c2 c3 c4 : Int) (l1 l2 l3 l4 : List Nat) (w : World) (hla : wa.length ≤ 64) (hlb : wb.length ≤ 64)
    (hl1 : l1.length ≤ 64) (hl2 : l2.length ≤ 64) (hl3 : l3.length ≤ 64) (hl4 : l4.length ≤ 64) (ht : Tabs w)
    (k1 : Hid (∀ W, Below w.heap.size w W → Calls Tryd.prog 26 #[setV sa A wa.length ca, setV sb B wb.length cb] W (OutRes s1 l1 c1 W)))
    (k2 : Hid (∀ W, Below w.heap.size w W → Calls Tryd.prog 27 #[setV sa A wa.length ca, setV sb B wb.length cb] W (OutRes s2 l2 c2 W)))
    (k3 : Hid (∀ W, Below w.heap.size w W → Calls Tryd.prog 28 #[setV sa A wa.length ca, setV sb B wb.length cb] W (OutRes s3 l3 c3 W)))
    (k4 : Hid (∀ W, Below w.heap.size w W → Calls Tryd.prog 29 #[setV sa A wa.length ca] W (OutRes s4 l4 c4 W)))
    (k5 : Hid (∀ W, Below w.heap.size w W → Calls Tryd.prog 30 #[.int .i64 0, setV sa A wa.length ca, setV sb B wb.length cb] W (OutRes s1 l1 c1 W)))
    (k6 : Hid (∀ W, Below w.heap.size w W → Calls Tryd.prog 30 #[.int .i64 1, setV sa A wa.length ca, setV sb B wb.length cb] W (OutRes s2 l2 c2 W)))
    (k7 : Hid (∀ W, Below w.heap.size w W → Calls Tryd.prog 30 #[.int .i64 2, setV sa A wa.length ca, setV sb B wb.length cb] W (OutRes s3 l3 c3 W)))
    (k8 : Hid (∀ W, Below w.heap.size w W → Calls Tryd.prog 31 #[setV sa A wa.length ca] W (OutRes s4 l4 c4 W))) :
    Calls Tryd.prog 5 #[setV sa A wa.length ca, setV sb B wb.length cb] w fun e w' => e = .returned (.bool true) ∧ Below w.heap.size w w' := by
  have h1' : ¬ (64 : Int) < (wa.length : Int) := by omega
  have h2' : ¬ (64 : Int) < (wb.length : Int) := by omega
  unfold setV
  go_enter Tryd.func5, Tryd.ntmps5
  go_wp2_with fail
  have i1 := DuInv.new_ w (.int .i64 sa) (.slice A wa.length ca) (.int .i64 sb) (.slice B wb.length cb) 24
  refine (known_ok _ (ht.below i1.bel)).mono ?_
  rintro e v0 ⟨rfl, hb1⟩
  have i0 := i1.below hb1
  clear i1 hb1
  have x0 := i0.t1.c0
  have x1 := i0.t1.c1
  have x2 := i0.t2.c0
  have x3 := i0.t2.c1
  go_wp2_with fail
  clear x0 x1 x2 x3
  refine (k1.out v0 i0.bel).mono ?_
  rintro e u1 ⟨A1, d1, rfl, hw, hbb⟩
  have i1 := (i0.below hbb).alloc (.cells #[.int .i64 s1, .slice A1 l1.length d1] 24)
  have p1 := Kept.new_ (sz := s1) (c := d1) hw 24
  have z := i0.below hbb
  have x0 := z.t1.c0
  have x1 := z.t1.c1
  have x2 := z.t2.c0
  have x3 := z.t2.c1
  have x4 := z.t1.lt
  have x5 := z.t2.lt
  clear i0 hbb hw
  unfold setV
  go_wp2_with fail
  clear z x0 x1 x2 x3 x4 x5
  generalize hg : u1.alloc (.cells #[.int .i64 s1, .slice A1 l1.length d1] 24) = v1 at i1 p1 ⊢
  clear hg
  refine (k2.out v1 i1.bel).mono ?_
  rintro e u2 ⟨A2, d2, rfl, hw, hbb⟩
  have i2 := (i1.below hbb).alloc (.cells #[.int .i64 s2, .slice A2 l2.length d2] 24)
  replace p1 := (p1.below hbb).alloc (.cells #[.int .i64 s2, .slice A2 l2.length d2] 24)
  have p2 := Kept.new_ (sz := s2) (c := d2) hw 24
  have z := i1.below hbb
  have x0 := z.t1.c0
  have x1 := z.t1.c1
  have x2 := z.t2.c0
  have x3 := z.t2.c1
  have x4 := z.t1.lt
  have x5 := z.t2.lt
  clear i1 hbb hw
  unfold setV
  go_wp2_with fail
  clear z x0 x1 x2 x3 x4 x5
  generalize hg : u2.alloc (.cells #[.int .i64 s2, .slice A2 l2.length d2] 24) = v2 at i2 p1 p2 ⊢
  clear hg
  refine (k3.out v2 i2.bel).mono ?_
  rintro e u3 ⟨A3, d3, rfl, hw, hbb⟩
  have i3 := (i2.below hbb).alloc (.cells #[.int .i64 s3, .slice A3 l3.length d3] 24)
  replace p1 := (p1.below hbb).alloc (.cells #[.int .i64 s3, .slice A3 l3.length d3] 24)
  replace p2 := (p2.below hbb).alloc (.cells #[.int .i64 s3, .slice A3 l3.length d3] 24)
  have p3 := Kept.new_ (sz := s3) (c := d3) hw 24
  have z := i2.below hbb
  have x0 := z.t1.c0
  have x1 := z.t1.c1
  have x2 := z.t2.c0
  have x3 := z.t2.c1
  have x4 := z.t1.lt
  have x5 := z.t2.lt
  clear i2 hbb hw
  unfold setV
  go_wp2_with fail
  clear z x0 x1 x2 x3 x4 x5
  generalize hg : u3.alloc (.cells #[.int .i64 s3, .slice A3 l3.length d3] 24) = v3 at i3 p1 p2 p3 ⊢
  clear hg
  refine (k4.out v3 i3.bel).mono ?_
  rintro e u4 ⟨A4, d4, rfl, hw, hbb⟩
  have i4 := (i3.below hbb).alloc (.cells #[.int .i64 s4, .slice A4 l4.length d4] 24)
  replace p1 := (p1.below hbb).alloc (.cells #[.int .i64 s4, .slice A4 l4.length d4] 24)
  replace p2 := (p2.below hbb).alloc (.cells #[.int .i64 s4, .slice A4 l4.length d4] 24)
  replace p3 := (p3.below hbb).alloc (.cells #[.int .i64 s4, .slice A4 l4.length d4] 24)
  have p4 := Kept.new_ (sz := s4) (c := d4) hw 24
  have z := i3.below hbb
  have x0 := z.t1.c0
  have x1 := z.t1.c1
  have x2 := z.t2.c0
  have x3 := z.t2.c1
  have x4 := z.t1.lt
  have x5 := z.t2.lt
  clear i3 hbb hw
  unfold setV
  go_wp2_with fail
  clear z x0 x1 x2 x3 x4 x5
  generalize hg : u4.alloc (.cells #[.int .i64 s4, .slice A4 l4.length d4] 24) = v4 at i4 p1 p2 p3 p4 ⊢
  clear hg
  refine (k5.out v4 i4.bel).mono ?_
  rintro e u5 ⟨A5, d5, rfl, hw, hbb⟩
  have i5 := (i4.below hbb).alloc (.cells #[.int .i64 s1, .slice A5 l1.length d5] 24)
  replace p1 := (p1.below hbb).alloc (.cells #[.int .i64 s1, .slice A5 l1.length d5] 24)
  replace p2 := (p2.below hbb).alloc (.cells #[.int .i64 s1, .slice A5 l1.length d5] 24)
  replace p3 := (p3.below hbb).alloc (.cells #[.int .i64 s1, .slice A5 l1.length d5] 24)
  replace p4 := (p4.below hbb).alloc (.cells #[.int .i64 s1, .slice A5 l1.length d5] 24)
  have p5 := Kept.new_ (sz := s1) (c := d5) hw 24
  have z := i4.below hbb
  have x0 := z.t1.c0
  have x1 := z.t1.c1
  have x2 := z.t2.c0
  have x3 := z.t2.c1
  have x4 := z.t1.lt
  have x5 := z.t2.lt
  clear i4 hbb hw
  unfold setV
  go_wp2_with fail
  clear z x0 x1 x2 x3 x4 x5
  generalize hg : u5.alloc (.cells #[.int .i64 s1, .slice A5 l1.length d5] 24) = v5 at i5 p1 p2 p3 p4 p5 ⊢
  clear hg
  refine (k6.out v5 i5.bel).mono ?_
  rintro e u6 ⟨A6, d6, rfl, hw, hbb⟩
  have i6 := (i5.below hbb).alloc (.cells #[.int .i64 s2, .slice A6 l2.length d6] 24)
  replace p1 := (p1.below hbb).alloc (.cells #[.int .i64 s2, .slice A6 l2.length d6] 24)
  replace p2 := (p2.below hbb).alloc (.cells #[.int .i64 s2, .slice A6 l2.length d6] 24)
  replace p3 := (p3.below hbb).alloc (.cells #[.int .i64 s2, .slice A6 l2.length d6] 24)
  replace p4 := (p4.below hbb).alloc (.cells #[.int .i64 s2, .slice A6 l2.length d6] 24)
  replace p5 := (p5.below hbb).alloc (.cells #[.int .i64 s2, .slice A6 l2.length d6] 24)
  have p6 := Kept.new_ (sz := s2) (c := d6) hw 24
  have z := i5.below hbb
  have x0 := z.t1.c0
  have x1 := z.t1.c1
  have x2 := z.t2.c0
  have x3 := z.t2.c1
  have x4 := z.t1.lt
  have x5 := z.t2.lt
  clear i5 hbb hw
  unfold setV
  go_wp2_with fail
  clear z x0 x1 x2 x3 x4 x5
  generalize hg : u6.alloc (.cells #[.int .i64 s2, .slice A6 l2.length d6] 24) = v6 at i6 p1 p2 p3 p4 p5 p6 ⊢
  clear hg
  refine (k7.out v6 i6.bel).mono ?_
  rintro e u7 ⟨A7, d7, rfl, hw, hbb⟩
  have i7 := (i6.below hbb).alloc (.cells #[.int .i64 s3, .slice A7 l3.length d7] 24)
  replace p1 := (p1.below hbb).alloc (.cells #[.int .i64 s3, .slice A7 l3.length d7] 24)
  replace p2 := (p2.below hbb).alloc (.cells #[.int .i64 s3, .slice A7 l3.length d7] 24)
  replace p3 := (p3.below hbb).alloc (.cells #[.int .i64 s3, .slice A7 l3.length d7] 24)
  replace p4 := (p4.below hbb).alloc (.cells #[.int .i64 s3, .slice A7 l3.length d7] 24)
  replace p5 := (p5.below hbb).alloc (.cells #[.int .i64 s3, .slice A7 l3.length d7] 24)
  replace p6 := (p6.below hbb).alloc (.cells #[.int .i64 s3, .slice A7 l3.length d7] 24)
  have p7 := Kept.new_ (sz := s3) (c := d7) hw 24
  have z := i6.below hbb
  have x0 := z.t1.c0
  have x1 := z.t1.c1
  have x2 := z.t2.c0
  have x3 := z.t2.c1
  have x4 := z.t1.lt
  have x5 := z.t2.lt
  clear i6 hbb hw
  unfold setV
  go_wp2_with fail
  clear z x0 x1 x2 x3 x4 x5
  generalize hg : u7.alloc (.cells #[.int .i64 s3, .slice A7 l3.length d7] 24) = v7 at i7 p1 p2 p3 p4 p5 p6 p7 ⊢
  clear hg
  refine (k8.out v7 i7.bel).mono ?_
  rintro e u8 ⟨A8, d8, rfl, hw, hbb⟩
  have i8 := (i7.below hbb).alloc (.cells #[.int .i64 s4, .slice A8 l4.length d8] 24)
  have y1 := (p1.below hbb).t.c0
  have y2 := (p1.below hbb).t.c1
  have y3 := (p1.below hbb).t.lt
  have y4 := (p5.below hbb).t.c0
  have y5 := (p5.below hbb).t.c1
  have y6 := (p5.below hbb).t.lt
  replace p1 := (p1.below hbb).alloc (.cells #[.int .i64 s4, .slice A8 l4.length d8] 24)
  replace p2 := (p2.below hbb).alloc (.cells #[.int .i64 s4, .slice A8 l4.length d8] 24)
  replace p3 := (p3.below hbb).alloc (.cells #[.int .i64 s4, .slice A8 l4.length d8] 24)
  replace p4 := (p4.below hbb).alloc (.cells #[.int .i64 s4, .slice A8 l4.length d8] 24)
  replace p5 := (p5.below hbb).alloc (.cells #[.int .i64 s4, .slice A8 l4.length d8] 24)
  replace p6 := (p6.below hbb).alloc (.cells #[.int .i64 s4, .slice A8 l4.length d8] 24)
  replace p7 := (p7.below hbb).alloc (.cells #[.int .i64 s4, .slice A8 l4.length d8] 24)
  have p8 := Kept.new_ (sz := s4) (c := d8) hw 24
  have z := i7.below hbb
  have x0 := z.t1.c0
  have x1 := z.t1.c1
  have x2 := z.t2.c0
  have x3 := z.t2.c1
  have x4 := z.t1.lt
  have x5 := z.t2.lt
  clear i7 hbb hw
  unfold setV
  go_wp2_with fail
  clear z x0 x1 x2 x3 x4 x5
  generalize hg : u8.alloc (.cells #[.int .i64 s4, .slice A8 l4.length d8] 24) = v8 at i8 p1 p2 p3 p4 p5 p6 p7 p8 ⊢
  clear hg
  clear k1 k2 k3 k4 k5 k6 k7 k8
  clear y1 y2 y3 y4 y5 y6
  have hacc : Below v8.heap.size v8 v8 := Below.refl _ _
  refine (same_refl s1 A1 d1 A5 d5 l1 _ ((p1.ws.below hacc).more hacc.size) ((p5.ws.below hacc).more hacc.size) (by omega)).mono ?_
  rintro e z1 ⟨rfl, hbb⟩
  replace hacc := hacc.trans (hbb.mono hacc.size)
  clear hbb
  have y1 := (p2.t.below hacc p2.t.lt).c0
  have y2 := (p2.t.below hacc p2.t.lt).c1
  have y4 := (p6.t.below hacc p6.t.lt).c0
  have y5 := (p6.t.below hacc p6.t.lt).c1
  go_wp2_with fail
  clear y1 y2 y4 y5
  refine (same_refl s2 A2 d2 A6 d6 l2 _ ((p2.ws.below hacc).more hacc.size) ((p6.ws.below hacc).more hacc.size) (by omega)).mono ?_
  rintro e z2 ⟨rfl, hbb⟩
  replace hacc := hacc.trans (hbb.mono hacc.size)
  clear hbb
  have y1 := (p3.t.below hacc p3.t.lt).c0
  have y2 := (p3.t.below hacc p3.t.lt).c1
  have y4 := (p7.t.below hacc p7.t.lt).c0
  have y5 := (p7.t.below hacc p7.t.lt).c1
  go_wp2_with fail
  clear y1 y2 y4 y5
  refine (same_refl s3 A3 d3 A7 d7 l3 _ ((p3.ws.below hacc).more hacc.size) ((p7.ws.below hacc).more hacc.size) (by omega)).mono ?_
  rintro e z3 ⟨rfl, hbb⟩
  replace hacc := hacc.trans (hbb.mono hacc.size)
  clear hbb
  have y1 := (p4.t.below hacc p4.t.lt).c0
  have y2 := (p4.t.below hacc p4.t.lt).c1
  have y4 := (p8.t.below hacc p8.t.lt).c0
  have y5 := (p8.t.below hacc p8.t.lt).c1
  go_wp2_with fail
  clear y1 y2 y4 y5
  refine (same_refl s4 A4 d4 A8 d8 l4 _ ((p4.ws.below hacc).more hacc.size) ((p8.ws.below hacc).more hacc.size) (by omega)).mono ?_
  rintro e z4 ⟨rfl, hbb⟩
  replace hacc := hacc.trans (hbb.mono hacc.size)
  clear hbb
  go_wp2_with fail
  go_ret
  exact ⟨rfl, i8.bel.trans (hacc.mono i8.bel.size)⟩

set_option maxRecDepth 100000 in
theorem combines_walk (sa : Int) (A : Option Addr) (ca : Nat) (wa : List Nat) (sb : Int) (B : Option Addr) (cb : Nat) (wb : List Nat) (w : World) (ha : Words w w.heap.size A wa) (hb : Words w w.heap.size B wb) (ht : Tabs w) :
    Calls Tryd.prog 5 #[setV sa A wa.length ca, setV sb B wb.length cb] w fun e w' => e = .returned (.bool true) ∧ Below w.heap.size w w' := by
  by_cases h1 : 64 < wa.length
  · have h1' : (64 : Int) < (wa.length : Int) := by omega
    unfold setV
    go_enter Tryd.func5, Tryd.ntmps5
    go_wp2_with fail
    have i1 := DuInv.new_ w (.int .i64 sa) (.slice A wa.length ca) (.int .i64 sb) (.slice B wb.length cb) 24
    refine (known_ok _ (ht.below i1.bel)).mono ?_
    rintro e w1 ⟨rfl, hb1⟩
    have i2 := i1.below hb1
    have c11 := i2.t1.c1
    go_wp2_with fail
    go_ret
    exact ⟨rfl, i2.bel⟩
  by_cases h2 : 64 < wb.length
  · have h1' : ¬ (64 : Int) < (wa.length : Int) := by omega
    have h2' : (64 : Int) < (wb.length : Int) := by omega
    unfold setV
    go_enter Tryd.func5, Tryd.ntmps5
    go_wp2_with fail
    have i1 := DuInv.new_ w (.int .i64 sa) (.slice A wa.length ca) (.int .i64 sb) (.slice B wb.length cb) 24
    refine (known_ok _ (ht.below i1.bel)).mono ?_
    rintro e w1 ⟨rfl, hb1⟩
    have i2 := i1.below hb1
    have c11 := i2.t1.c1
    have d11 := i2.t2.c1
    go_wp2_with fail
    go_ret
    exact ⟨rfl, i2.bel⟩
  have hla : wa.length ≤ 64 := by omega
  have hlb : wb.length ≤ 64 := by omega
  have hla' : wa.length ≤ 140737488351232 := by omega
  have hlb' : wb.length ≤ 140737488351232 := by omega
  have WA : ∀ {W}, Below w.heap.size w W → Words W W.heap.size A wa := fun hB => (ha.below hB).more hB.size
  have WB : ∀ {W}, Below w.heap.size w W → Words W W.heap.size B wb := fun hB => (hb.below hB).more hB.size
  have N0 : ([] : List Nat).length ≤ 64 := by simp
  cases hva : Kb.validB sa wa with
  | false =>
    have R : Refuse sa wa sb wb 1 := Or.inl ⟨hva, rfl⟩
    exact combines_core sa A ca wa sb B cb wb 0 0 0 0 1 1 1 1 [] [] [] [] w hla hlb N0 N0 N0 N0 ht
      (Lib.hid fun W hB => (union_bad sa A ca wa sb B cb wb 1 W (WA hB) (WB hB) hla' hlb' R).mono fun _ _ h => OutRes.of_err h)
      (Lib.hid fun W hB => (inter_bad sa A ca wa sb B cb wb 1 W (WA hB) (WB hB) hla' hlb' R).mono fun _ _ h => OutRes.of_err h)
      (Lib.hid fun W hB => (minus_bad sa A ca wa sb B cb wb 1 W (WA hB) (WB hB) hla' hlb' R).mono fun _ _ h => OutRes.of_err h)
      (Lib.hid fun W hB => (compl_bad sa A ca wa W (WA hB) hla' hva).mono fun _ _ h => OutRes.of_err h)
      (Lib.hid fun W hB => (rcombine_bad 0 sa A ca wa sb B cb wb 1 W (WA hB) (WB hB) hla' hlb' R).mono fun _ _ h => OutRes.of_err h)
      (Lib.hid fun W hB => (rcombine_bad 1 sa A ca wa sb B cb wb 1 W (WA hB) (WB hB) hla' hlb' R).mono fun _ _ h => OutRes.of_err h)
      (Lib.hid fun W hB => (rcombine_bad 2 sa A ca wa sb B cb wb 1 W (WA hB) (WB hB) hla' hlb' R).mono fun _ _ h => OutRes.of_err h)
      (Lib.hid fun W hB => (rcompl_bad sa A ca wa W (WA hB) hla' hva).mono fun _ _ h => OutRes.of_err h)
  | true =>
  obtain ⟨n, rfl⟩ := Int.eq_ofNat_of_zero_le ((Kb.validB_iff ha.lt).1 hva).1
  have hoa : Kb.Ok n wa := by simpa using ((Kb.validB_iff ha.lt).1 hva).2.2
  have hn : n ≤ 4096 := by have := ((Kb.validB_iff ha.lt).1 hva).2.1; omega
  have hnw : Kb.nw n ≤ 64 := by unfold Kb.nw; omega
  have L : ∀ f : Nat → Bool, (Kb.mkWords n f).length ≤ 64 := fun f => by rw [Kb.mkWords_length]; exact hnw
  have K4 : Hid (∀ W, Below w.heap.size w W → Calls Tryd.prog 29 #[setV n A wa.length ca] W (OutRes n (Kb.mkWords n (fun j => !Kb.bitAt wa j)) 0 W)) := Lib.hid fun W hB => (compl_ok n A ca wa W (WA hB) hoa hn).mono fun _ _ h => OutRes.of_set h
  have K8 : Hid (∀ W, Below w.heap.size w W → Calls Tryd.prog 31 #[setV n A wa.length ca] W (OutRes n (Kb.mkWords n (fun j => !Kb.bitAt wa j)) 0 W)) := Lib.hid fun W hB => (rcompl_ok n A ca wa W (WA hB) hoa hn).mono fun _ _ h => OutRes.of_set h
  have bad : ∀ code : Int, Refuse n wa sb wb code → Calls Tryd.prog 5 #[setV n A wa.length ca, setV sb B wb.length cb] w fun e w' => e = .returned (.bool true) ∧ Below w.heap.size w w' := fun code R =>
    combines_core n A ca wa sb B cb wb 0 0 0 n code code code 0 [] [] [] _ w hla hlb N0 N0 N0 (L _) ht
      (Lib.hid fun W hB => (union_bad n A ca wa sb B cb wb code W (WA hB) (WB hB) hla' hlb' R).mono fun _ _ h => OutRes.of_err h)
      (Lib.hid fun W hB => (inter_bad n A ca wa sb B cb wb code W (WA hB) (WB hB) hla' hlb' R).mono fun _ _ h => OutRes.of_err h)
      (Lib.hid fun W hB => (minus_bad n A ca wa sb B cb wb code W (WA hB) (WB hB) hla' hlb' R).mono fun _ _ h => OutRes.of_err h)
      K4
      (Lib.hid fun W hB => (rcombine_bad 0 n A ca wa sb B cb wb code W (WA hB) (WB hB) hla' hlb' R).mono fun _ _ h => OutRes.of_err h)
      (Lib.hid fun W hB => (rcombine_bad 1 n A ca wa sb B cb wb code W (WA hB) (WB hB) hla' hlb' R).mono fun _ _ h => OutRes.of_err h)
      (Lib.hid fun W hB => (rcombine_bad 2 n A ca wa sb B cb wb code W (WA hB) (WB hB) hla' hlb' R).mono fun _ _ h => OutRes.of_err h)
      K8
  cases hvb : Kb.validB sb wb with
  | false => exact bad 1 (Or.inr (Or.inl ⟨hva, hvb, rfl⟩))
  | true =>
  by_cases hs : (n : Int) = sb
  case neg => exact bad 2 (Or.inr (Or.inr ⟨hva, hvb, hs, rfl⟩))
  subst hs
  have hob : Kb.Ok n wb := by simpa using ((Kb.validB_iff hb.lt).1 hvb).2.2
  exact combines_core n A ca wa n B cb wb n n n n 0 0 0 0 _ _ _ _ w hla hlb (L _) (L _) (L _) (L _) ht
    (Lib.hid fun W hB => (union_ok n A ca wa B cb wb W (WA hB) (WB hB) hoa hob hn).mono fun _ _ h => OutRes.of_set h)
    (Lib.hid fun W hB => (inter_ok n A ca wa B cb wb W (WA hB) (WB hB) hoa hob hn).mono fun _ _ h => OutRes.of_set h)
    (Lib.hid fun W hB => (minus_ok n A ca wa B cb wb W (WA hB) (WB hB) hoa hob hn).mono fun _ _ h => OutRes.of_set h)
    K4
    (Lib.hid fun W hB => (rcombine0_ok n A ca wa B cb wb W (WA hB) (WB hB) hoa hob hn).mono fun _ _ h => OutRes.of_set h)
    (Lib.hid fun W hB => (rcombine1_ok n A ca wa B cb wb W (WA hB) (WB hB) hoa hob hn).mono fun _ _ h => OutRes.of_set h)
    (Lib.hid fun W hB => (rcombine2_ok n A ca wa B cb wb W (WA hB) (WB hB) hoa hob hn).mono fun _ _ h => OutRes.of_set h)
    K8
end Go.Proofs.YtcfgeggfcnkckaaDoor
