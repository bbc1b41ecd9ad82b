/- The law BitsetChanges, walked: Has, With and Without answer as the reference does, for every set and every integer. -/
import Derived.Test.YtcfgeggfcnkckaaDoorWa
import Derived.Test.YtcfgeggfcnkckaaDoorWj
import Derived.Test.YtcfgeggfcnkckaaDoorLawCompares
namespace Go.Proofs.YtcfgeggfcnkckaaDoor
open Go.RowKit Go.Sort
set_option linter.unusedVariables false

/-- a set (or the zero value) and a code -/
def OutRes (sz : Int) (ws : List Nat) (code : Int) (w : World) (e : Ending) (w' : World) : Prop :=
  ∃ A c, e = .returned (.tuple #[setV sz A ws.length c, .int .i64 code]) ∧ Words w' w'.heap.size A ws ∧ Below w.heap.size w w'
theorem OutRes.of_set {n : Nat} {ws : List Nat} {w w' : World} {e : Ending} (h : SetRes n ws w e w') : OutRes n ws 0 w e w' := h
theorem OutRes.of_err {code : Int} {w w' : World} {e : Ending} (h : ErrRes code w e w') : OutRes 0 [] code w e w' := ⟨none, 0, h.1, Words.nil _ _ _, h.2⟩
theorem same_self (s : Int) (l : List Nat) : sameB s l s l = true := by unfold sameB; simp

/-- the law's world: the box and sets that were handed back -/
structure ChInv (w wr : World) (x y : Value) : Prop where
  t1 : Two wr w.heap.size x y
  bel : Below w.heap.size w wr
theorem ChInv.below {w wr wx : World} {x y : Value} (h : ChInv w wr x y) (hb : Below wr.heap.size wr wx) : ChInv w wx x y := ⟨h.t1.below hb h.t1.lt, h.bel.trans (hb.mono h.bel.size)⟩
theorem ChInv.alloc {w wr : World} {x y : Value} (h : ChInv w wr x y) (o : Obj) : ChInv w (wr.alloc o) x y := ⟨h.t1.alloc o, h.bel.alloc h.bel.size o⟩
/-- a kept set: its block and its words -/
structure Kept (wr : World) (b : Nat) (sz : Int) (A : Option Addr) (ws : List Nat) (c : Nat) : Prop where
  t : Two wr b (.int .i64 sz) (.slice A ws.length c)
  ws : Words wr wr.heap.size A ws
theorem Kept.below {wr wx : World} {b : Nat} {sz : Int} {A : Option Addr} {ws : List Nat} {c : Nat} (h : Kept wr b sz A ws c) (hb : Below wr.heap.size wr wx) : Kept wx b sz A ws c := ⟨h.t.below hb h.t.lt, (h.ws.below hb).more hb.size⟩
theorem Kept.alloc {wr : World} {b : Nat} {sz : Int} {A : Option Addr} {ws : List Nat} {c : Nat} (h : Kept wr b sz A ws c) (o : Obj) : Kept (wr.alloc o) b sz A ws c := ⟨h.t.alloc o, (h.ws.alloc (Nat.le_refl _) o).more (by simp)⟩
theorem Kept.new_ {wr : World} {sz : Int} {A : Option Addr} {ws : List Nat} {c : Nat} (h : Words wr wr.heap.size A ws) (T : TypeId) : Kept (wr.alloc (.cells #[.int .i64 sz, .slice A ws.length c] T)) wr.heap.size sz A ws c := ⟨Two.new_ _ _ _ _, (h.alloc (Nat.le_refl _) _).more (by simp)⟩

set_option maxRecDepth 100000 in
set_option maxHeartbeats 2000000 in
theorem changes_core (sa : Int) (A : Option Addr) (ca : Nat) (wa : List Nat) (i : Int) (s1 s2 c1 c2 : Int) (l1 l2 : List Nat) (w : World) (ha : Words w w.heap.size A wa) (hl : wa.length ≤ 64) (hl1 : l1.length ≤ 64) (hl2 : l2.length ≤ 64) (ht : Tabs w)
    (k1 : Hid (∀ W, Below w.heap.size w W → Calls Tryd.prog 21 #[setV sa A wa.length ca, .int .i64 i] W (OutRes s1 l1 c1 W)))
    (k2 : Hid (∀ W, Below w.heap.size w W → Calls Tryd.prog 22 #[setV sa A wa.length ca, .int .i64 i] W (OutRes s2 l2 c2 W)))
    (k3 : Hid (∀ W, Below w.heap.size w W → Calls Tryd.prog 23 #[setV sa A wa.length ca, .int .i64 i, .bool true] W (OutRes s1 l1 c1 W)))
    (k4 : Hid (∀ W, Below w.heap.size w W → Calls Tryd.prog 23 #[setV sa A wa.length ca, .int .i64 i, .bool false] W (OutRes s2 l2 c2 W))) :
    Calls Tryd.prog 4 #[setV sa A wa.length ca, .int .i64 i] w fun e w' => e = .returned (.bool true) ∧ Below w.heap.size w w' := by
  have h1' : ¬ (64 : Int) < (wa.length : Int) := by omega
  unfold setV
  go_enter Tryd.func4, Tryd.ntmps4
  go_wp2_with fail
  have i1 : ChInv w (w.alloc (.cells #[.int .i64 sa, .slice A wa.length ca] 24)) (.int .i64 sa) (.slice A wa.length ca) := ⟨Two.new_ _ _ _ _, (Below.refl _ _).alloc (Nat.le_refl _) _⟩
  refine (known_ok _ (ht.below i1.bel)).mono ?_
  rintro e w1 ⟨rfl, hb1⟩
  have i2 := i1.below hb1
  clear i1 hb1
  have c10 := i2.t1.c0
  have c11 := i2.t1.c1
  go_wp2_with fail
  refine (k1.out w1 i2.bel).mono ?_
  rintro e w2 ⟨A1, d1, rfl, hw1, hb2⟩
  have i3 := (i2.below hb2).alloc (.cells #[.int .i64 s1, .slice A1 l1.length d1] 24)
  have p3 := Kept.new_ (sz := s1) (c := d1) hw1 24
  have z2 := i2.below hb2
  have x10 := z2.t1.c0
  have x11 := z2.t1.c1
  have xlt := z2.t1.lt
  clear i2 hb2 hw1 c10 c11
  unfold setV
  go_wp2_with fail
  generalize hw3 : w2.alloc (.cells #[.int .i64 s1, .slice A1 l1.length d1] 24) = w3 at i3 p3 ⊢
  clear hw3 x10 x11 xlt z2
  refine (k2.out w3 i3.bel).mono ?_
  rintro e w4 ⟨A2, d2, rfl, hw2, hb4⟩
  have i4 := (i3.below hb4).alloc (.cells #[.int .i64 s2, .slice A2 l2.length d2] 24)
  have p4 := (p3.below hb4).alloc (.cells #[.int .i64 s2, .slice A2 l2.length d2] 24)
  have q4 := Kept.new_ (sz := s2) (c := d2) hw2 24
  have z2 := i3.below hb4
  have x10 := z2.t1.c0
  have x11 := z2.t1.c1
  have xlt := z2.t1.lt
  clear i3 hb4 hw2 p3
  unfold setV
  go_wp2_with fail
  generalize hw5 : w4.alloc (.cells #[.int .i64 s2, .slice A2 l2.length d2] 24) = w5 at i4 p4 q4 ⊢
  clear hw5 x10 x11 xlt z2
  refine (k3.out w5 i4.bel).mono ?_
  rintro e w6 ⟨A3, d3, rfl, hw3, hb6⟩
  have i5 := (i4.below hb6).alloc (.cells #[.int .i64 s1, .slice A3 l1.length d3] 24)
  have p5 := (p4.below hb6).alloc (.cells #[.int .i64 s1, .slice A3 l1.length d3] 24)
  have q5 := (q4.below hb6).alloc (.cells #[.int .i64 s1, .slice A3 l1.length d3] 24)
  have r5 := Kept.new_ (sz := s1) (c := d3) hw3 24
  have z2 := i4.below hb6
  have x10 := z2.t1.c0
  have x11 := z2.t1.c1
  have xlt := z2.t1.lt
  clear i4 hb6 hw3 p4 q4
  unfold setV
  go_wp2_with fail
  generalize hw7 : w6.alloc (.cells #[.int .i64 s1, .slice A3 l1.length d3] 24) = w7 at i5 p5 q5 r5 ⊢
  clear hw7 x10 x11 xlt z2
  refine (k4.out w7 i5.bel).mono ?_
  rintro e w8 ⟨A4, d4, rfl, hw4, hb8⟩
  have i6 := (i5.below hb8).alloc (.cells #[.int .i64 s2, .slice A4 l2.length d4] 24)
  have p6 := (p5.below hb8).alloc (.cells #[.int .i64 s2, .slice A4 l2.length d4] 24)
  have q6 := (q5.below hb8).alloc (.cells #[.int .i64 s2, .slice A4 l2.length d4] 24)
  have r6 := (r5.below hb8).alloc (.cells #[.int .i64 s2, .slice A4 l2.length d4] 24)
  have s6 := Kept.new_ (sz := s2) (c := d4) hw4 24
  clear i5 hb8 hw4 p5 q5 r5
  unfold setV
  go_wp2_with fail
  generalize hw9 : w8.alloc (.cells #[.int .i64 s2, .slice A4 l2.length d4] 24) = w9 at i6 p6 q6 r6 s6 ⊢
  clear hw9
  have hX := (ha.below i6.bel).more i6.bel.size
  have g10 := cell_regrown i6.t1.c0
  have g11 := cell_regrown i6.t1.c1
  have g20 := cell_regrown p6.t.c0
  have g21 := cell_regrown p6.t.c1
  have g30 := cell_regrown q6.t.c0
  have g31 := cell_regrown q6.t.c1
  have g40 := cell_regrown r6.t.c0
  have g41 := cell_regrown r6.t.c1
  have g50 := cell_regrown s6.t.c0
  have g51 := cell_regrown s6.t.c1
  obtain ⟨E, hE⟩ : ∃ E, Hid (hasB sa wa i = E) := ⟨_, Lib.hid rfl⟩
  have Q1 := Lib.hid (show ∀ d os, Calls Tryd.prog 24 #[.agg #[.int .i64 sa, .slice A wa.length ca], .int .i64 i] (grow (redrawn w9 d) os) fun e w'' => e = .returned (.bool E) ∧ ∃ p : Regrown, w'' = grow (redrawn w9 p.d) p.os from
    fun d os => Calls.regrown_of (by rw [← hE.out]; exact has_any sa A ca wa i _ (hX.regrown (Nat.le_refl _) d os) (by omega)))
  have Q2 := Lib.hid (show ∀ d os, Calls Tryd.prog 25 #[.agg #[.int .i64 sa, .slice A wa.length ca], .int .i64 i] (grow (redrawn w9 d) os) fun e w'' => e = .returned (.bool E) ∧ ∃ p : Regrown, w'' = grow (redrawn w9 p.d) p.os from
    fun d os => Calls.regrown_of (by rw [← hE.out]; exact rhas_any sa A ca wa i _ (hX.regrown (Nat.le_refl _) d os) (by omega)))
  have Q3 := Lib.hid (show ∀ d os, Calls Tryd.prog 20 #[.agg #[.int .i64 s1, .slice A1 l1.length d1], .agg #[.int .i64 s1, .slice A3 l1.length d3]] (grow (redrawn w9 d) os) fun e w'' => e = .returned (.bool true) ∧ ∃ p : Regrown, w'' = grow (redrawn w9 p.d) p.os from
    fun d os => Calls.regrown_of (by rw [← same_self s1 l1]; exact same_any s1 A1 d1 l1 s1 A3 d3 l1 _ (p6.ws.regrown (Nat.le_refl _) d os) (r6.ws.regrown (Nat.le_refl _) d os) (by omega)))
  have Q4 := Lib.hid (show ∀ d os, Calls Tryd.prog 20 #[.agg #[.int .i64 s2, .slice A2 l2.length d2], .agg #[.int .i64 s2, .slice A4 l2.length d4]] (grow (redrawn w9 d) os) fun e w'' => e = .returned (.bool true) ∧ ∃ p : Regrown, w'' = grow (redrawn w9 p.d) p.os from
    fun d os => Calls.regrown_of (by rw [← same_self s2 l2]; exact same_any s2 A2 d2 l2 s2 A4 d4 l2 _ (q6.ws.regrown (Nat.le_refl _) d os) (s6.ws.regrown (Nat.le_refl _) d os) (by omega)))
  clear k1 k2 k3 k4
  refine wp_region_quiet_below (by kernel_rfl) (by kernel_rfl) ?_
  repeat (quiet_step (first | (go_at_call 24; with_reducible exact Q1.out _ _) | (go_at_call 25; with_reducible exact Q2.out _ _) | (go_at_call 20; first | (with_reducible exact Q3.out _ _) | (with_reducible exact Q4.out _ _))))
  refine wpQuiet_nil ?_
  intro _ hw'
  obtain ⟨⟨dq, osq⟩, hw''⟩ := hw'
  subst hw''
  go_wp2_with fail
  go_ret
  exact ⟨rfl, i6.bel.trans ((below_regrown w9 dq osq).mono i6.bel.size)⟩
end Go.Proofs.YtcfgeggfcnkckaaDoor
