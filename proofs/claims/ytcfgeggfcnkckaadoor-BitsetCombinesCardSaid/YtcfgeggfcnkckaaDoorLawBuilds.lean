/- The law BitsetBuilds, walked: New, All, Of and Valid answer as the reference does, for every size and all members. -/
import Derived.Test.YtcfgeggfcnkckaaDoorWp
import Derived.Test.YtcfgeggfcnkckaaDoorLawChanges
namespace Go.Proofs.YtcfgeggfcnkckaaDoor
open Go.RowKit Go.Sort
set_option linter.unusedVariables false

set_option maxRecDepth 100000 in
set_option maxHeartbeats 4000000 in
theorem builds_core (sa : Int) (A : Option Addr) (ca : Nat) (wa : List Nat) (n : Int) (Z : Option Addr) (cz : Nat) (zs : List Int) (s1 s2 s3 c1 c2 c3 : Int) (l1 l2 l3 : List Nat) (w : World) (ha : Words w w.heap.size A wa) (hl : wa.length ≤ 64) (hz : zs.length ≤ 5000) (hl1 : l1.length ≤ 64) (hl2 : l2.length ≤ 64) (hl3 : l3.length ≤ 64) (ht : Tabs w)
    (k1 : Hid (∀ W, Below w.heap.size w W → Calls Tryd.prog 13 #[.int .i64 n] W (OutRes s1 l1 c1 W)))
    (k2 : Hid (∀ W, Below w.heap.size w W → Calls Tryd.prog 14 #[.int .i64 n] W (OutRes s2 l2 c2 W)))
    (k3 : Hid (∀ W, Below w.heap.size w W → Calls Tryd.prog 15 #[.int .i64 n, .slice Z zs.length cz] W (OutRes s3 l3 c3 W)))
    (k4 : Hid (∀ W, Below w.heap.size w W → Calls Tryd.prog 16 #[.int .i64 n, .slice none 0 0] W (OutRes s1 l1 c1 W)))
    (k5 : Hid (∀ W, Below w.heap.size w W → Calls Tryd.prog 17 #[.int .i64 n] W (OutRes s2 l2 c2 W)))
    (k6 : Hid (∀ W, Below w.heap.size w W → Calls Tryd.prog 16 #[.int .i64 n, .slice Z zs.length cz] W (OutRes s3 l3 c3 W))) :
    Calls Tryd.prog 3 #[setV sa A wa.length ca, .int .i64 n, .slice Z zs.length cz] w fun e w' => e = .returned (.bool true) ∧ Below w.heap.size w w' := by
  have h1' : ¬ (64 : Int) < (wa.length : Int) := by omega
  have h2' : ¬ (5000 : Int) < (zs.length : Int) := by omega
  unfold setV
  go_enter Tryd.func3, Tryd.ntmps3
  go_wp2_with fail
  have i1 : ChInv w (w.alloc (.cells #[.int .i64 sa, .slice A wa.length ca] 24)) (.int .i64 sa) (.slice A wa.length ca) := ⟨Two.new_ _ _ _ _, (Below.refl _ _).alloc (Nat.le_refl _) _⟩
  refine (known_ok _ (ht.below i1.bel)).mono ?_
  rintro e v0 ⟨rfl, hb1⟩
  have i0 := i1.below hb1
  clear i1 hb1
  have x0 := i0.t1.c0
  have x1 := i0.t1.c1
  go_wp2_with fail
  clear x0 x1
  refine (k1.out v0 i0.bel).mono ?_
  rintro e u1 ⟨A1, d1, rfl, hw, hbb⟩
  have i1 := (i0.below hbb).alloc (.cells #[.int .i64 s1, .slice A1 l1.length d1] 24)
  have p1 := Kept.new_ (sz := s1) (c := d1) hw 24
  clear i0 hbb hw
  unfold setV
  go_wp2_with fail
  generalize hg : u1.alloc (.cells #[.int .i64 s1, .slice A1 l1.length d1] 24) = v1 at i1 p1 ⊢
  clear hg
  refine (k2.out v1 i1.bel).mono ?_
  rintro e u2 ⟨A2, d2, rfl, hw, hbb⟩
  have i2 := (i1.below hbb).alloc (.cells #[.int .i64 s2, .slice A2 l2.length d2] 24)
  replace p1 := (p1.below hbb).alloc (.cells #[.int .i64 s2, .slice A2 l2.length d2] 24)
  have p2 := Kept.new_ (sz := s2) (c := d2) hw 24
  clear i1 hbb hw
  unfold setV
  go_wp2_with fail
  generalize hg : u2.alloc (.cells #[.int .i64 s2, .slice A2 l2.length d2] 24) = v2 at i2 p1 p2 ⊢
  clear hg
  refine (k3.out v2 i2.bel).mono ?_
  rintro e u3 ⟨A3, d3, rfl, hw, hbb⟩
  have i3 := (i2.below hbb).alloc (.cells #[.int .i64 s3, .slice A3 l3.length d3] 24)
  replace p1 := (p1.below hbb).alloc (.cells #[.int .i64 s3, .slice A3 l3.length d3] 24)
  replace p2 := (p2.below hbb).alloc (.cells #[.int .i64 s3, .slice A3 l3.length d3] 24)
  have p3 := Kept.new_ (sz := s3) (c := d3) hw 24
  clear i2 hbb hw
  unfold setV
  go_wp2_with fail
  generalize hg : u3.alloc (.cells #[.int .i64 s3, .slice A3 l3.length d3] 24) = v3 at i3 p1 p2 p3 ⊢
  clear hg
  refine (k4.out v3 i3.bel).mono ?_
  rintro e u4 ⟨A4, d4, rfl, hw, hbb⟩
  have i4 := (i3.below hbb).alloc (.cells #[.int .i64 s1, .slice A4 l1.length d4] 24)
  replace p1 := (p1.below hbb).alloc (.cells #[.int .i64 s1, .slice A4 l1.length d4] 24)
  replace p2 := (p2.below hbb).alloc (.cells #[.int .i64 s1, .slice A4 l1.length d4] 24)
  replace p3 := (p3.below hbb).alloc (.cells #[.int .i64 s1, .slice A4 l1.length d4] 24)
  have p4 := Kept.new_ (sz := s1) (c := d4) hw 24
  clear i3 hbb hw
  unfold setV
  go_wp2_with fail
  generalize hg : u4.alloc (.cells #[.int .i64 s1, .slice A4 l1.length d4] 24) = v4 at i4 p1 p2 p3 p4 ⊢
  clear hg
  refine (k5.out v4 i4.bel).mono ?_
  rintro e u5 ⟨A5, d5, rfl, hw, hbb⟩
  have i5 := (i4.below hbb).alloc (.cells #[.int .i64 s2, .slice A5 l2.length d5] 24)
  replace p1 := (p1.below hbb).alloc (.cells #[.int .i64 s2, .slice A5 l2.length d5] 24)
  replace p2 := (p2.below hbb).alloc (.cells #[.int .i64 s2, .slice A5 l2.length d5] 24)
  replace p3 := (p3.below hbb).alloc (.cells #[.int .i64 s2, .slice A5 l2.length d5] 24)
  replace p4 := (p4.below hbb).alloc (.cells #[.int .i64 s2, .slice A5 l2.length d5] 24)
  have p5 := Kept.new_ (sz := s2) (c := d5) hw 24
  clear i4 hbb hw
  unfold setV
  go_wp2_with fail
  generalize hg : u5.alloc (.cells #[.int .i64 s2, .slice A5 l2.length d5] 24) = v5 at i5 p1 p2 p3 p4 p5 ⊢
  clear hg
  refine (k6.out v5 i5.bel).mono ?_
  rintro e u6 ⟨A6, d6, rfl, hw, hbb⟩
  have i6 := (i5.below hbb).alloc (.cells #[.int .i64 s3, .slice A6 l3.length d6] 24)
  replace p1 := (p1.below hbb).alloc (.cells #[.int .i64 s3, .slice A6 l3.length d6] 24)
  replace p2 := (p2.below hbb).alloc (.cells #[.int .i64 s3, .slice A6 l3.length d6] 24)
  replace p3 := (p3.below hbb).alloc (.cells #[.int .i64 s3, .slice A6 l3.length d6] 24)
  replace p4 := (p4.below hbb).alloc (.cells #[.int .i64 s3, .slice A6 l3.length d6] 24)
  replace p5 := (p5.below hbb).alloc (.cells #[.int .i64 s3, .slice A6 l3.length d6] 24)
  have p6 := Kept.new_ (sz := s3) (c := d6) hw 24
  clear i5 hbb hw
  unfold setV
  go_wp2_with fail
  generalize hg : u6.alloc (.cells #[.int .i64 s3, .slice A6 l3.length d6] 24) = v6 at i6 p1 p2 p3 p4 p5 p6 ⊢
  clear hg
  clear k1 k2 k3 k4 k5 k6
  have hX := (ha.below i6.bel).more i6.bel.size
  have g0 := cell_regrown i6.t1.c0
  have g1 := cell_regrown i6.t1.c1
  have y1 := cell_regrown p1.t.c0
  have z1 := cell_regrown p1.t.c1
  have y2 := cell_regrown p2.t.c0
  have z2 := cell_regrown p2.t.c1
  have y3 := cell_regrown p3.t.c0
  have z3 := cell_regrown p3.t.c1
  have y4 := cell_regrown p4.t.c0
  have z4 := cell_regrown p4.t.c1
  have y5 := cell_regrown p5.t.c0
  have z5 := cell_regrown p5.t.c1
  have y6 := cell_regrown p6.t.c0
  have z6 := cell_regrown p6.t.c1
  obtain ⟨V, hV⟩ : ∃ V, Hid (Kb.validB sa wa = V) := ⟨_, Lib.hid rfl⟩
  have Q1 := Lib.hid (show ∀ d os, Calls Tryd.prog 18 #[.agg #[.int .i64 sa, .slice A wa.length ca]] (grow (redrawn v6 d) os) fun e w'' => e = .returned (.bool V) ∧ ∃ p : Regrown, w'' = grow (redrawn v6 p.d) p.os from
    fun d os => Calls.regrown_of (by rw [← hV.out]; exact bvalid_any sa A ca wa _ (hX.regrown (Nat.le_refl _) d os) (by omega)))
  have Q2 := Lib.hid (show ∀ d os, Calls Tryd.prog 19 #[.agg #[.int .i64 sa, .slice A wa.length ca]] (grow (redrawn v6 d) os) fun e w'' => e = .returned (.bool V) ∧ ∃ p : Regrown, w'' = grow (redrawn v6 p.d) p.os from
    fun d os => Calls.regrown_of (by rw [← hV.out]; exact rvalid_any sa A ca wa _ (hX.regrown (Nat.le_refl _) d os) (by omega)))
  have R1 := Lib.hid (show ∀ d os, Calls Tryd.prog 20 #[.agg #[.int .i64 s1, .slice A1 l1.length d1], .agg #[.int .i64 s1, .slice A4 l1.length d4]] (grow (redrawn v6 d) os) fun e w'' => e = .returned (.bool true) ∧ ∃ p : Regrown, w'' = grow (redrawn v6 p.d) p.os from
    fun d os => Calls.regrown_of (by rw [← same_self s1 l1]; exact same_any s1 A1 d1 l1 s1 A4 d4 l1 _ (p1.ws.regrown (Nat.le_refl _) d os) (p4.ws.regrown (Nat.le_refl _) d os) (by omega)))
  have R2 := Lib.hid (show ∀ d os, Calls Tryd.prog 20 #[.agg #[.int .i64 s2, .slice A2 l2.length d2], .agg #[.int .i64 s2, .slice A5 l2.length d5]] (grow (redrawn v6 d) os) fun e w'' => e = .returned (.bool true) ∧ ∃ p : Regrown, w'' = grow (redrawn v6 p.d) p.os from
    fun d os => Calls.regrown_of (by rw [← same_self s2 l2]; exact same_any s2 A2 d2 l2 s2 A5 d5 l2 _ (p2.ws.regrown (Nat.le_refl _) d os) (p5.ws.regrown (Nat.le_refl _) d os) (by omega)))
  have R3 := Lib.hid (show ∀ d os, Calls Tryd.prog 20 #[.agg #[.int .i64 s3, .slice A3 l3.length d3], .agg #[.int .i64 s3, .slice A6 l3.length d6]] (grow (redrawn v6 d) os) fun e w'' => e = .returned (.bool true) ∧ ∃ p : Regrown, w'' = grow (redrawn v6 p.d) p.os from
    fun d os => Calls.regrown_of (by rw [← same_self s3 l3]; exact same_any s3 A3 d3 l3 s3 A6 d6 l3 _ (p3.ws.regrown (Nat.le_refl _) d os) (p6.ws.regrown (Nat.le_refl _) d os) (by omega)))
  refine wp_region_quiet_below (by kernel_rfl) (by kernel_rfl) ?_
  repeat (quiet_step (first | (go_at_call 18; with_reducible exact Q1.out _ _) | (go_at_call 19; with_reducible exact Q2.out _ _) | (go_at_call 20; first | (with_reducible exact R1.out _ _) | (with_reducible exact R2.out _ _) | (with_reducible exact R3.out _ _))))
  refine wpQuiet_nil ?_
  intro _ hw'
  obtain ⟨⟨dq, osq⟩, hw''⟩ := hw'
  subst hw''
  go_wp2_with fail
  go_ret
  exact ⟨rfl, i6.bel.trans ((below_regrown v6 dq osq).mono i6.bel.size)⟩

theorem wAt' {w W : World} {A : Option Addr} {zs : List Int} (h : Ints w w.heap.size A zs) (hb : Below w.heap.size w W) : Ints W W.heap.size A zs := (h.below hb).more hb.size
theorem Ints.nil (w : World) (B : Nat) (A : Option Addr) : Ints w B A [] := ⟨Row.nil w B A, fun _ h => by cases h⟩

theorem new_out (n : Nat) (hn : n ≤ 4096) (w : World) : Calls Tryd.prog 13 #[.int .i64 (n : Int)] w (OutRes n (Kb.mkWords n (memB [])) 0 w) := by
  refine (new_ok n hn w).mono ?_
  rintro e w' ⟨g, hg, rfl, hblk, hb⟩
  rw [zeros_mk n (memB []) (fun _ => rfl)]
  exact ⟨some ⟨g, 0, none⟩, Kb.nw n, by rw [List.length_replicate], hblk.words hblk.lt (zeros_ok n).lt, hb⟩

set_option maxRecDepth 100000 in
theorem builds_walk (sa : Int) (A : Option Addr) (ca : Nat) (wa : List Nat) (n : Int) (Z : Option Addr) (cz : Nat) (zs : List Int) (w : World) (ha : Words w w.heap.size A wa) (hz : Ints w w.heap.size Z zs) (ht : Tabs w) :
    Calls Tryd.prog 3 #[setV sa A wa.length ca, .int .i64 n, .slice Z zs.length cz] w fun e w' => e = .returned (.bool true) ∧ Below w.heap.size w w' := by
  by_cases h1 : 64 < wa.length
  · have h1' : (64 : Int) < (wa.length : Int) := by omega
    unfold setV
    go_enter Tryd.func3, Tryd.ntmps3
    go_wp2_with fail
    have i1 : ChInv w (w.alloc (.cells #[.int .i64 sa, .slice A wa.length ca] 24)) (.int .i64 sa) (.slice A wa.length ca) := ⟨Two.new_ _ _ _ _, (Below.refl _ _).alloc (Nat.le_refl _) _⟩
    refine (known_ok _ (ht.below i1.bel)).mono ?_
    rintro e w1 ⟨rfl, hb1⟩
    have i2 := i1.below hb1
    have c11 := i2.t1.c1
    go_wp2_with fail
    go_ret
    exact ⟨rfl, i2.bel⟩
  by_cases h2 : 5000 < zs.length
  · have h1' : ¬ (64 : Int) < (wa.length : Int) := by omega
    have h2' : (5000 : Int) < (zs.length : Int) := by omega
    unfold setV
    go_enter Tryd.func3, Tryd.ntmps3
    go_wp2_with fail
    have i1 : ChInv w (w.alloc (.cells #[.int .i64 sa, .slice A wa.length ca] 24)) (.int .i64 sa) (.slice A wa.length ca) := ⟨Two.new_ _ _ _ _, (Below.refl _ _).alloc (Nat.le_refl _) _⟩
    refine (known_ok _ (ht.below i1.bel)).mono ?_
    rintro e w1 ⟨rfl, hb1⟩
    have i2 := i1.below hb1
    have c11 := i2.t1.c1
    go_wp2_with fail
    go_ret
    exact ⟨rfl, i2.bel⟩
  have hl : wa.length ≤ 64 := by omega
  have hl2 : zs.length ≤ 5000 := by omega
  have hzl : zs.length ≤ 17592186043904 := by omega
  by_cases hn : 0 ≤ n ∧ n ≤ 4096
  · obtain ⟨m, rfl⟩ := Int.eq_ofNat_of_zero_le hn.1
    have hm : m ≤ 4096 := by omega
    have hnw : Kb.nw m ≤ 64 := by unfold Kb.nw; omega
    have L : ∀ f : Nat → Bool, (Kb.mkWords m f).length ≤ 64 := fun f => by rw [Kb.mkWords_length]; exact hnw
    have K1 : Hid (∀ W, Below w.heap.size w W → Calls Tryd.prog 13 #[.int .i64 (m : Int)] W (OutRes m (Kb.mkWords m (memB [])) 0 W)) := Lib.hid fun W hb => new_out m hm W
    have K2 : Hid (∀ W, Below w.heap.size w W → Calls Tryd.prog 14 #[.int .i64 (m : Int)] W (OutRes m (Kb.mkWords m (fun _ => true)) 0 W)) := Lib.hid fun W hb => (all_ok m hm W).mono fun _ _ h => OutRes.of_set h
    have K4 : Hid (∀ W, Below w.heap.size w W → Calls Tryd.prog 16 #[.int .i64 (m : Int), .slice none 0 0] W (OutRes m (Kb.mkWords m (memB [])) 0 W)) := Lib.hid fun W hb => (rof_ok m hm none 0 [] W (Ints.nil _ _ _) (by simp) rfl).mono fun _ _ h => OutRes.of_set h
    have K5 : Hid (∀ W, Below w.heap.size w W → Calls Tryd.prog 17 #[.int .i64 (m : Int)] W (OutRes m (Kb.mkWords m (fun _ => true)) 0 W)) := Lib.hid fun W hb => (rall_ok m hm W).mono fun _ _ h => OutRes.of_set h
    cases hin : inB m zs with
    | true =>
      exact builds_core sa A ca wa m Z cz zs m m m 0 0 0 _ _ (Kb.mkWords m (memB zs)) w ha hl hl2 (L _) (L _) (L _) ht K1 K2 (Lib.hid fun W hb => (of_ok m hm Z cz zs W (wAt' hz hb) hzl hin).mono fun _ _ h => OutRes.of_set h) K4 K5 (Lib.hid fun W hb => (rof_ok m hm Z cz zs W (wAt' hz hb) hzl hin).mono fun _ _ h => OutRes.of_set h)
    | false =>
      exact builds_core sa A ca wa m Z cz zs m m 0 0 0 3 _ _ [] w ha hl hl2 (L _) (L _) (by simp) ht K1 K2 (Lib.hid fun W hb => (of_bad m hm Z cz zs W (wAt' hz hb) hzl hin).mono fun _ _ h => OutRes.of_err h) K4 K5 (Lib.hid fun W hb => (rof_bad m hm Z cz zs W (wAt' hz hb) hzl hin).mono fun _ _ h => OutRes.of_err h)
  · exact builds_core sa A ca wa n Z cz zs 0 0 0 3 3 3 [] [] [] w ha hl hl2 (by simp) (by simp) (by simp) ht (Lib.hid fun W hb => (new_bad n hn W).mono fun _ _ h => OutRes.of_err h) (Lib.hid fun W hb => (all_bad n hn W).mono fun _ _ h => OutRes.of_err h) (Lib.hid fun W hb => (of_badsize n hn _ W).mono fun _ _ h => OutRes.of_err h) (Lib.hid fun W hb => (rof_badsize n hn _ W).mono fun _ _ h => OutRes.of_err h) (Lib.hid fun W hb => (rall_bad n hn W).mono fun _ _ h => OutRes.of_err h) (Lib.hid fun W hb => (rof_badsize n hn _ W).mono fun _ _ h => OutRes.of_err h)
end Go.Proofs.YtcfgeggfcnkckaaDoor
