/- The law IntegerInts, walked. -/
import Derived.Test.YtkhpjkjegbgkcaaDoorLawCanonical
import Derived.Test.YtkhpjkjegbgkcaaDoorWl
namespace Go.Proofs.YtkhpjkjegbgkcaaDoor
open Go.RowKit
set_option linter.unusedVariables false

theorem of_len {n : Int} (h0 : Hid (-9223372036854775808 ≤ n)) (h1 : Hid (n ≤ 9223372036854775807)) : n.natAbs < Kn.pw 2 := by
  have h3 : Kn.pw 2 = 18446744073709551616 := by decide
  have := h0.out
  have := h1.out
  omega

set_option maxRecDepth 100000 in
set_option maxHeartbeats 4000000 in
theorem ints_walk (n : Int) (nx : Bool) (A : Option Addr) (ca : Nat) (xs : List Nat) (w : World) (hn : -9223372036854775808 ≤ n ∧ n ≤ 9223372036854775807) (hx : Sl w w.heap.size A ca xs) (ht : Tabs w) :
    Calls Tryd.prog 4 #[.int .i64 n, intV nx A xs.length ca] w fun e w' => e = .returned (.bool true) ∧ Below w.heap.size w w' := by
  have h0 : Hid (-9223372036854775808 ≤ n) := Lib.hid hn.1
  have h1 : Hid (n ≤ 9223372036854775807) := Lib.hid hn.2
  clear hn
  unfold intV
  go_enter Tryd.func4, Tryd.ntmps4
  go_wp2_with fail
  have t := Two.new_ w (.bool nx) (.slice A xs.length ca) 24
  have bel := al1 w (.cells #[.bool nx, .slice A xs.length ca] 24)
  revert t bel
  generalize w.alloc (.cells #[.bool nx, .slice A xs.length ca] 24) = w1
  intro t bel
  refine (known_ok _ (ht.below bel)).mono ?_
  rintro e w2 ⟨rfl, hb⟩
  replace t := t.below hb t.lt
  replace bel := bel.trans (hb.mono bel.size)
  clear hb
  have x0 := t.c0
  have x1 := t.c1
  rcases Decidable.em (¬ xs.length ≤ 10) with hxl | hxl
  · have HL := Lib.hid hxl
    clear hxl
    go_wp2_with fail
    refine (gshort_f _ HL.out).mono ?_
    rintro e w' ⟨rfl, hb⟩
    clear x0 x1
    go_wp2_with fail
    go_ret
    exact ⟨rfl, bel.trans (hb.mono bel.size)⟩
  replace hxl : xs.length ≤ 10 := by omega
  go_wp2_with fail
  refine (gshort_t _ hxl).mono ?_
  rintro e w' ⟨rfl, hb⟩
  replace t := t.below hb t.lt
  replace bel := bel.trans (hb.mono bel.size)
  clear hb
  clear x0 x1
  have x0 := t.c0
  have x1 := t.c1
  obtain ⟨x, hxv⟩ : ∃ x : Int, x = Kn.iv nx xs := ⟨_, rfl⟩
  have X : Iv _ nx A ca xs x 10 := ⟨(hx.below bel).more bel.size, hxv.symm, hxl⟩
  obtain ⟨S, hS⟩ : ∃ S, Hid (S = smI x) := ⟨_, Lib.hid rfl⟩
  obtain ⟨F, hF⟩ : ∃ F, Hid (F = smB x) := ⟨_, Lib.hid rfl⟩
  have hof : Hid (∀ W, Calls Tryd.prog 28 #[.int .i64 n] W (GI n 2 W)) := Lib.hid (fun W => (of_any n h0 h1 W).mono fun _ _ hr => GI.of hr (of_len h0 h1))
  have hrof : Hid (∀ W, Calls Tryd.prog 30 #[.int .i64 n] W (GI n 2 W)) := Lib.hid (fun W => (rof_any n h0 h1 W).mono fun _ _ hr => GI.of hr (of_len h0 h1))
  have hs1 : Hid (∀ W p B c l, Cn W p B c l n 2 → Calls Tryd.prog 29 #[.agg #[.bool p, .slice B l.length c]] W fun e w' => e = .returned (.tuple #[.int .i64 n, .bool true]) ∧ Below W.heap.size W w') := Lib.hid (fun W p B c l h => bsmall_any p B c l W h.iv.sl (by have := h.iv.len; omega) n true (Lib.hid (by rw [h.iv.val]; exact (sm_yes ⟨h0.out, h1.out⟩).1.symm)) (Lib.hid (by rw [h.iv.val]; exact (sm_yes ⟨h0.out, h1.out⟩).2.symm)))
  have hs2 : Hid (∀ W, Iv W nx A ca xs x 10 → Calls Tryd.prog 29 #[.agg #[.bool nx, .slice A xs.length ca]] W fun e w' => e = .returned (.tuple #[.int .i64 S, .bool F]) ∧ Below W.heap.size W w') := Lib.hid (fun W h => bsmall_any nx A ca xs W h.sl (by have := h.len; omega) S F (Lib.hid (by rw [h.val, hS.out])) (Lib.hid (by rw [h.val, hF.out])))
  have hs3 : Hid (∀ W, Iv W nx A ca xs x 10 → Calls Tryd.prog 31 #[.agg #[.bool nx, .slice A xs.length ca]] W fun e w' => e = .returned (.tuple #[.int .i64 S, .bool F]) ∧ Below W.heap.size W w') := Lib.hid (fun W h => rsmall_any nx A ca xs W h.sl (by have := h.len; omega) S F (Lib.hid (by rw [h.val, hS.out])) (Lib.hid (by rw [h.val, hF.out])))
  have hvc : Hid (∀ W p A c l, Cn W p A c l n 2 → Calls Tryd.prog 18 #[.agg #[.bool p, .slice A l.length c]] W fun e w' => e = .returned (.bool true) ∧ Below W.heap.size W w') := Lib.hid (fun W p A c l h => by
    have := valid_any p A c l W h.iv.sl (by have := h.iv.len; omega)
    rwa [vld_can h] at this)
  have nn : (n != n) = false := by simp
  clear hxv hx hxl
  go_wp2_with fail
  refine (hof.out _).mono ?_
  rintro e w' ⟨p1, A1, c1, l1, rfl, S1, hb⟩
  replace t := t.below hb t.lt
  replace bel := bel.trans (hb.mono bel.size)
  replace X := X.below hb
  clear hb
  clear x0 x1
  have x0 := t.c0
  have x1 := t.c1
  go_wp2_with fail
  have i : B1 w (w'.alloc (.cells #[.bool p1, .slice A1 l1.length c1] 24)) w'.heap.size nx A xs.length ca p1 A1 l1.length c1 := ⟨t.alloc _, Two.new_ _ _ _ _, bel.alloc bel.size _⟩
  replace X := X.alloc (.cells #[.bool p1, .slice A1 l1.length c1] 24)
  replace S1 := S1.alloc (.cells #[.bool p1, .slice A1 l1.length c1] 24)
  clear x0 x1
  clear t bel
  revert i X S1
  generalize w'.alloc (.cells #[.bool p1, .slice A1 l1.length c1] 24) = w3
  generalize w'.heap.size = g
  intro i X S1
  have u0 := i.t2.c0
  have u1 := i.t2.c1
  go_wp2_with fail
  refine (hs1.out _ _ _ _ _ S1).mono ?_
  rintro e w' ⟨rfl, hb⟩
  replace i := i.below hb
  replace X := X.below hb
  replace S1 := S1.below hb
  clear hb u0 u1
  go_wp2_with fail
  replace i := i.drew
  replace X := X.drew
  replace S1 := S1.drew
  go_region_held3 (fun w' => w'.cell? ⟨g, 0, none⟩ = some (.bool p1) ∧ w'.cell? ⟨g, 1, none⟩ = some (.slice A1 l1.length c1))
    (exact ⟨i.t2.c0, i.t2.c1⟩)
    (first
      | (go_at_call 18; (with_reducible refine (hvc.out _ _ _ _ _ S1).mono ?_); rintro e w' ⟨rfl, hb⟩; replace i := i.below hb; replace X := X.below hb; replace S1 := S1.below hb; (try (replace S2 := S2.below hb)); clear hb)
      | (go_at_call 30; (with_reducible refine (hrof.out _).mono ?_); rintro e w' ⟨p2, A2, c2, l2, rfl, S2, hb⟩; replace i := i.below hb; replace X := X.below hb; replace S1 := S1.below hb; clear hb)
      | (go_at_call 16; (with_reducible refine (gsame_t S1 S2 (by decide) (by decide) rfl).mono ?_); rintro e w' ⟨rfl, hb⟩; replace i := i.below hb; replace X := X.below hb; replace S1 := S1.below hb; (try (replace S2 := S2.below hb)); clear hb))
  all_goals
    have x0 := i.t1.c0
    have x1 := i.t1.c1
    go_wp2_with fail
    refine (hs2.out _ X).mono ?_
    rintro e w' ⟨rfl, hb⟩
    replace i := i.below hb
    replace X := X.below hb
    clear hb x0 x1
    have x0 := i.t1.c0
    have x1 := i.t1.c1
    go_wp2_with fail
    refine (hs3.out _ X).mono ?_
    rintro e w' ⟨rfl, hb⟩
    replace i := i.below hb
    clear hb x0 x1
    go_wp2_with fail
    go_ret
    exact ⟨by first | rfl | simp, i.bel⟩
end Go.Proofs.YtkhpjkjegbgkcaaDoor
