/- The law IntegerCanonical, walked. -/
import Derived.Test.YtkhpjkjegbgkcaaDoorLw
import Derived.Test.YtkhpjkjegbgkcaaDoorWg
namespace Go.Proofs.YtkhpjkjegbgkcaaDoor
open Go.RowKit
set_option linter.unusedVariables false

/-- two boxes -/
structure B1 (w wr : World) (g : Nat) (p1 : Bool) (a1 : Option Addr) (n1 c1 : Nat) (p2 : Bool) (a2 : Option Addr) (n2 c2 : Nat) : Prop where
  t1 : Two wr w.heap.size (.bool p1) (.slice a1 n1 c1)
  t2 : Two wr g (.bool p2) (.slice a2 n2 c2)
  bel : Below w.heap.size w wr
section
variable {w wr wx : World} {g : Nat} {p1 p2 : Bool} {a1 a2 : Option Addr} {n1 c1 n2 c2 : Nat}
theorem B1.below (h : B1 w wr g p1 a1 n1 c1 p2 a2 n2 c2) (hb : Below wr.heap.size wr wx) : B1 w wx g p1 a1 n1 c1 p2 a2 n2 c2 := ⟨h.t1.below hb h.t1.lt, h.t2.below hb h.t2.lt, h.bel.trans (hb.mono h.bel.size)⟩
theorem B1.drew (h : B1 w wr g p1 a1 n1 c1 p2 a2 n2 c2) : B1 w wr.drew g p1 a1 n1 c1 p2 a2 n2 c2 := ⟨h.t1.drew, h.t2.drew, bDrew1 h.bel⟩
end
theorem vld_can {W : World} {p : Bool} {A : Option Addr} {c n : Nat} {l : List Nat} {x : Int} (h : Cn W p A c l x n) : vld p l = true := by
  obtain ⟨e1, e2⟩ := h.can
  unfold vld
  by_cases h0 : x = 0
  · subst h0
    have : l = [] := by rw [e2]; exact Kn.dig_zero
    rw [this, e1]; rfl
  · have hp : 0 < x.natAbs := by omega
    have hl := Kn.dig_len_pos.2 hp
    have hlast := Kn.dig_last hp
    rw [← e2] at hl hlast
    rw [if_neg (by omega)]
    simp only [Bool.not_eq_true', beq_eq_false_iff_ne]
    exact hlast

set_option maxRecDepth 100000 in
set_option maxHeartbeats 4000000 in
theorem canonical_walk (nx : Bool) (A : Option Addr) (ca : Nat) (xs : List Nat) (w : World) (hx : Sl w w.heap.size A ca xs) (ht : Tabs w) :
    Calls Tryd.prog 3 #[intV nx A xs.length ca] w fun e w' => e = .returned (.bool true) ∧ Below w.heap.size w w' := by
  unfold intV
  go_enter Tryd.func3, Tryd.ntmps3
  go_wp2_with fail
  have t := Two.new_ w (.bool nx) (.slice A xs.length ca) 24
  have bel := al1 w (.cells #[.bool nx, .slice A xs.length ca] 24)
  revert t bel
  generalize w.alloc (.cells #[.bool nx, .slice A xs.length ca] 24) = w1
  intro t bel
  refine (known_ok _ (ht.below bel)).mono ?_
  rintro e w2 ⟨rfl, hb⟩
  replace t := t.below hb t.lt
  replace bel := bel.trans (hb.mono bel.size)
  clear hb
  have x0 := t.c0
  have x1 := t.c1
  rcases Decidable.em (¬ xs.length ≤ 10) with hxl | hxl
  · have HL := Lib.hid hxl
    clear hxl
    go_wp2_with fail
    refine (gshort_f _ HL.out).mono ?_
    rintro e w' ⟨rfl, hb⟩
    clear x0 x1
    go_wp2_with fail
    go_ret
    exact ⟨rfl, bel.trans (hb.mono bel.size)⟩
  replace hxl : xs.length ≤ 10 := by omega
  go_wp2_with fail
  refine (gshort_t _ hxl).mono ?_
  rintro e w' ⟨rfl, hb⟩
  replace t := t.below hb t.lt
  replace bel := bel.trans (hb.mono bel.size)
  clear hb
  clear x0 x1
  have x0 := t.c0
  have x1 := t.c1
  obtain ⟨x, hxv⟩ : ∃ x : Int, x = Kn.iv nx xs := ⟨_, rfl⟩
  have X : Iv _ nx A ca xs x 10 := ⟨(hx.below bel).more bel.size, hxv.symm, hxl⟩
  have hbl : Hid (∀ W, Iv W nx A ca xs x 10 → Calls Tryd.prog 22 #[.agg #[.bool nx, .slice A xs.length ca]] W fun e w' => e = .returned (.int .i64 ((bitsOf (Kn.dig (Kn.val xs)) : Nat) : Int)) ∧ Below W.heap.size W w') := Lib.hid (fun W h => bits_any nx A ca xs W h.sl (by have := h.len; omega))
  have hrbl : Hid (∀ W, Iv W nx A ca xs x 10 → Calls Tryd.prog 23 #[.agg #[.bool nx, .slice A xs.length ca]] W fun e w' => e = .returned (.int .i64 ((bitsOf (Kn.dig (Kn.val xs)) : Nat) : Int)) ∧ Below W.heap.size W w') := Lib.hid (fun W h => rbits_any nx A ca xs W h.sl (by have := h.len; omega))
  have hv : Hid (∀ W, Iv W nx A ca xs x 10 → Calls Tryd.prog 18 #[.agg #[.bool nx, .slice A xs.length ca]] W fun e w' => e = .returned (.bool (vld nx xs)) ∧ Below W.heap.size W w') := Lib.hid (fun W h => valid_any nx A ca xs W h.sl (by have := h.len; omega))
  have hrv : Hid (∀ W, Iv W nx A ca xs x 10 → Calls Tryd.prog 19 #[.agg #[.bool nx, .slice A xs.length ca]] W fun e w' => e = .returned (.bool (vld nx xs)) ∧ Below W.heap.size W w') := Lib.hid (fun W h => rvalid_any nx A ca xs W h.sl (by have := h.len; omega))
  have hvc : Hid (∀ W p A c l, Cn W p A c l x 10 → Calls Tryd.prog 18 #[.agg #[.bool p, .slice A l.length c]] W fun e w' => e = .returned (.bool true) ∧ Below W.heap.size W w') := Lib.hid (fun W p A c l h => by
    have := valid_any p A c l W h.iv.sl (by have := h.iv.len; omega)
    rwa [vld_can h] at this)
  have hsg : Hid (∀ W, Iv W nx A ca xs x 10 → Calls Tryd.prog 20 #[.agg #[.bool nx, .slice A xs.length ca]] W fun e w' => e = .returned (.int .i64 x.sign) ∧ Below W.heap.size W w') := Lib.hid (fun W h => gsign h (by decide))
  have hrsg : Hid (∀ W, Iv W nx A ca xs x 10 → Calls Tryd.prog 21 #[.agg #[.bool nx, .slice A xs.length ca]] W fun e w' => e = .returned (.int .i64 x.sign) ∧ Below W.heap.size W w') := Lib.hid (fun W h => grsign h (by decide))
  revert hbl hrbl hv hrv hsg hrsg
  generalize ((bitsOf (Kn.dig (Kn.val xs)) : Nat) : Int) = bt
  generalize vld nx xs = vl
  generalize x.sign = sg
  intro hbl hrbl hv hrv hsg hrsg
  clear hxv hx hxl
  go_wp2_with fail
  refine (gclean X (by decide)).mono ?_
  rintro e w' ⟨p1, A1, c1, l1, rfl, S1, hb⟩
  replace t := t.below hb t.lt
  replace bel := bel.trans (hb.mono bel.size)
  replace X := X.below hb
  clear hb
  clear x0 x1
  have x0 := t.c0
  have x1 := t.c1
  go_wp2_with fail
  have i : B1 w (w'.alloc (.cells #[.bool p1, .slice A1 l1.length c1] 24)) w'.heap.size nx A xs.length ca p1 A1 l1.length c1 := ⟨t.alloc _, Two.new_ _ _ _ _, bel.alloc bel.size _⟩
  replace X := X.alloc (.cells #[.bool p1, .slice A1 l1.length c1] 24)
  replace S1 := S1.alloc (.cells #[.bool p1, .slice A1 l1.length c1] 24)
  clear x0 x1
  clear t bel
  revert i X S1
  generalize w'.alloc (.cells #[.bool p1, .slice A1 l1.length c1] 24) = w3
  generalize w'.heap.size = g
  intro i X S1
  replace i := i.drew
  replace X := X.drew
  replace S1 := S1.drew
  go_region_held3 (fun w' => w'.cell? ⟨w.heap.size, 0, none⟩ = some (.bool nx) ∧ w'.cell? ⟨w.heap.size, 1, none⟩ = some (.slice A xs.length ca) ∧ w'.cell? ⟨g, 0, none⟩ = some (.bool p1) ∧ w'.cell? ⟨g, 1, none⟩ = some (.slice A1 l1.length c1))
    (exact ⟨i.t1.c0, i.t1.c1, i.t2.c0, i.t2.c1⟩)
    (first
      | (go_at_call 17; (with_reducible refine (grclean X (by decide)).mono ?_); rintro e w' ⟨p2, A2, c2, l2, rfl, S2, hb⟩; replace i := i.below hb; replace X := X.below hb; replace S1 := S1.below hb; (try (replace S3 := S3.below hb)); (try (replace S4 := S4.below hb)); (try (replace S5 := S5.below hb)); (try (replace S6 := S6.below hb)); clear hb)
      | (go_at_call 16; (with_reducible refine (gsame_t S1 S2 (by decide) (by decide) rfl).mono ?_); rintro e w' ⟨rfl, hb⟩; replace i := i.below hb; replace X := X.below hb; replace S1 := S1.below hb; (try (replace S2 := S2.below hb)); (try (replace S3 := S3.below hb)); (try (replace S4 := S4.below hb)); (try (replace S5 := S5.below hb)); (try (replace S6 := S6.below hb)); clear hb)
      | (go_at_call 18; (with_reducible refine (hv.out _ X).mono ?_); rintro e w' ⟨rfl, hb⟩; replace i := i.below hb; replace X := X.below hb; replace S1 := S1.below hb; (try (replace S2 := S2.below hb)); (try (replace S3 := S3.below hb)); (try (replace S4 := S4.below hb)); (try (replace S5 := S5.below hb)); (try (replace S6 := S6.below hb)); clear hb)
      | (go_at_call 19; (with_reducible refine (hrv.out _ X).mono ?_); rintro e w' ⟨rfl, hb⟩; replace i := i.below hb; replace X := X.below hb; replace S1 := S1.below hb; (try (replace S2 := S2.below hb)); (try (replace S3 := S3.below hb)); (try (replace S4 := S4.below hb)); (try (replace S5 := S5.below hb)); (try (replace S6 := S6.below hb)); clear hb)
      | (go_at_call 18; (with_reducible refine (hvc.out _ _ _ _ _ S1).mono ?_); rintro e w' ⟨rfl, hb⟩; replace i := i.below hb; replace X := X.below hb; replace S1 := S1.below hb; (try (replace S2 := S2.below hb)); (try (replace S3 := S3.below hb)); (try (replace S4 := S4.below hb)); (try (replace S5 := S5.below hb)); (try (replace S6 := S6.below hb)); clear hb)
      | (go_at_call 20; (with_reducible refine (hsg.out _ X).mono ?_); rintro e w' ⟨rfl, hb⟩; replace i := i.below hb; replace X := X.below hb; replace S1 := S1.below hb; (try (replace S2 := S2.below hb)); (try (replace S3 := S3.below hb)); (try (replace S4 := S4.below hb)); (try (replace S5 := S5.below hb)); (try (replace S6 := S6.below hb)); clear hb)
      | (go_at_call 21; (with_reducible refine (hrsg.out _ X).mono ?_); rintro e w' ⟨rfl, hb⟩; replace i := i.below hb; replace X := X.below hb; replace S1 := S1.below hb; (try (replace S2 := S2.below hb)); (try (replace S3 := S3.below hb)); (try (replace S4 := S4.below hb)); (try (replace S5 := S5.below hb)); (try (replace S6 := S6.below hb)); clear hb)
      | (go_at_call 22; (with_reducible refine (hbl.out _ X).mono ?_); rintro e w' ⟨rfl, hb⟩; replace i := i.below hb; replace X := X.below hb; replace S1 := S1.below hb; (try (replace S2 := S2.below hb)); (try (replace S3 := S3.below hb)); (try (replace S4 := S4.below hb)); (try (replace S5 := S5.below hb)); (try (replace S6 := S6.below hb)); clear hb)
      | (go_at_call 23; (with_reducible refine (hrbl.out _ X).mono ?_); rintro e w' ⟨rfl, hb⟩; replace i := i.below hb; replace X := X.below hb; replace S1 := S1.below hb; (try (replace S2 := S2.below hb)); (try (replace S3 := S3.below hb)); (try (replace S4 := S4.below hb)); (try (replace S5 := S5.below hb)); (try (replace S6 := S6.below hb)); clear hb)
      | (go_at_call 24; (with_reducible refine (gneg X (by decide)).mono ?_); rintro e w' ⟨p3, A3_, c3, l3, rfl, S3, hb⟩; replace i := i.below hb; replace X := X.below hb; replace S1 := S1.below hb; (try (replace S2 := S2.below hb)); (try (replace S4 := S4.below hb)); (try (replace S5 := S5.below hb)); (try (replace S6 := S6.below hb)); clear hb)
      | (go_at_call 25; (with_reducible refine (grneg X (by decide)).mono ?_); rintro e w' ⟨p4, A4, c4, l4, rfl, S4, hb⟩; replace i := i.below hb; replace X := X.below hb; replace S1 := S1.below hb; (try (replace S2 := S2.below hb)); (try (replace S3 := S3.below hb)); (try (replace S5 := S5.below hb)); (try (replace S6 := S6.below hb)); clear hb)
      | (go_at_call 16; (with_reducible refine (gsame_t S3 S4 (by decide) (by decide) rfl).mono ?_); rintro e w' ⟨rfl, hb⟩; replace i := i.below hb; replace X := X.below hb; replace S1 := S1.below hb; (try (replace S2 := S2.below hb)); (try (replace S3 := S3.below hb)); (try (replace S4 := S4.below hb)); (try (replace S5 := S5.below hb)); (try (replace S6 := S6.below hb)); clear hb)
      | (go_at_call 26; (with_reducible refine (gabs X (by decide)).mono ?_); rintro e w' ⟨p5, A5, c5, l5, rfl, S5, hb⟩; replace i := i.below hb; replace X := X.below hb; replace S1 := S1.below hb; (try (replace S2 := S2.below hb)); (try (replace S3 := S3.below hb)); (try (replace S4 := S4.below hb)); (try (replace S6 := S6.below hb)); clear hb)
      | (go_at_call 27; (with_reducible refine (grabs X (by decide)).mono ?_); rintro e w' ⟨p6, A6, c6, l6, rfl, S6, hb⟩; replace i := i.below hb; replace X := X.below hb; replace S1 := S1.below hb; (try (replace S2 := S2.below hb)); (try (replace S3 := S3.below hb)); (try (replace S4 := S4.below hb)); (try (replace S5 := S5.below hb)); clear hb)
      | (go_at_call 16; (with_reducible refine (gsame_t S5 S6 (by decide) (by decide) rfl).mono ?_); rintro e w' ⟨rfl, hb⟩; replace i := i.below hb; replace X := X.below hb; replace S1 := S1.below hb; (try (replace S2 := S2.below hb)); (try (replace S3 := S3.below hb)); (try (replace S4 := S4.below hb)); (try (replace S5 := S5.below hb)); (try (replace S6 := S6.below hb)); clear hb))
  all_goals
    go_wp2_with fail
    go_ret
    exact ⟨by first | rfl | simp, i.bel⟩
end Go.Proofs.YtkhpjkjegbgkcaaDoor
