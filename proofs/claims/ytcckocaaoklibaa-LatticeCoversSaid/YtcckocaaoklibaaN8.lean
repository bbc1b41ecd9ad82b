/- Walks: Join, Meet; the methods of a nil lattice; known. -/
import Derived.Test.YtcckocaaoklibaaN7
namespace Go.Proofs.Ytcckocaaoklibaa
open Go.RowKit Go.Maps
set_option linter.unusedVariables false

theorem row_new (w : World) (xs : List Value) (T : TypeId) : Row (w.alloc (.cells xs.toArray T)) (w.alloc (.cells xs.toArray T)).heap.size (some ⟨w.heap.size, 0, none⟩) xs :=
  ⟨fun _ => ⟨w.heap.size, 0, rfl, by simp, fun k u hu => by
    rw [Nat.zero_add, cell_of_row _ _ _ _ _ _ (heap_alloc_new w _)]
    simpa using hu⟩⟩
theorem al1 (w : World) (o : Obj) : Below w.heap.size w (w.alloc o) := (Below.refl _ _).alloc (Nat.le_refl _) o
theorem bTrans {w w1 w2 : World} (h : Below w.heap.size w w1) (h2 : Below w1.heap.size w1 w2) : Below w.heap.size w w2 := h.trans (h2.mono h.size)

namespace Kl
/-- the join of two numbers; none for one that is no level -/
def jpO (L : Nat → Nat → Bool) (n : Nat) (a b : Int) : Option Nat := if lvB a n && lvB b n then some (num (jn L n a.toNat b.toNat)) else none
theorem lvB_nat {z : Int} {n : Nat} (h : lvB z n = true) : ∃ i : Nat, z = (i : Int) ∧ i < n := by
  unfold lvB at h
  simp only [Bool.and_eq_true, decide_eq_true_eq] at h
  obtain ⟨i, rfl⟩ := Int.eq_ofNat_of_zero_le h.1
  exact ⟨i, rfl, by omega⟩
theorem jaK_two {L : Nat → Nat → Bool} {n : Nat} (h : Lat L n) (a b : Int) : jaK L n [a, b] 2 = jpO L n a b := by
  unfold jpO
  have h0 : jaK L n [a, b] 0 = some (bot L n) := rfl
  cases ha : lvB a n with
  | false => rw [jaK_none (k := 1) (by decide) (jaK_bad h0 ha)]; rfl
  | true =>
    obtain ⟨i, rfl, hi⟩ := lvB_nat ha
    have h1 : jaK L n [(i : Int), b] 1 = some i := by
      rw [jaK_step h0 ha]
      show some (num (jn L n (bot L n) (i : Int).toNat)) = _
      rw [Int.toNat_natCast, h.jn_bot hi]; rfl
    cases hb : lvB b n with
    | false => rw [jaK_bad h1 hb]; rfl
    | true => rw [jaK_step h1 hb]; rfl
theorem newC_lat {ns : List ByteArray} {ps : List (Int × Int)} (h : newC ns ps = 0) : ns.length ≤ 12 ∧ 0 < ns.length ∧ Lat (le ns.length ps) ns.length ∧ nmC (nmAt ns) ns.length = 0 ∧ inP ns.length ps = true := by
  unfold newC at h
  split at h
  · exact absurd h (by decide)
  · rename_i h1
    split at h
    · rename_i h2; exact absurd h h2
    · rename_i h2
      split at h
      · rename_i h3
        unfold ckC at h
        split at h
        · rename_i hA
          split at h
          · rename_i hB
            exact ⟨by omega, by omega, ⟨le_pre _ _, fun a b ha hb => antiB_iff.1 hA a b ha hb, fun a b ha hb => allB_iff.1 hB a b ha hb⟩, by simpa using h2, h3⟩
          · exact absurd h (by decide)
        · exact absurd h (by decide)
      · exact absurd h (by decide)
end Kl

section
variable {lb n : Nat} {An : Option Addr} {cn : Nat} {Mv : Value} {Aa : Option Addr} {ca : Nat} {Ab : Option Addr} {cb : Nat} {L : Nat → Nat → Bool}
/-- what Join and Meet hand back -/
def JmRes (o : Option Nat) (w : World) (e : Ending) (w' : World) : Prop := e = .returned (.tuple #[.int .i64 ((Kl.num o : Nat) : Int), .int .i64 (Kl.jaC o)]) ∧ Below w.heap.size w w'

set_option maxRecDepth 100000 in
set_option maxHeartbeats 1000000 in
theorem join_ok (hL : Kl.Lat L n) (hn : n ≤ 12) (hn0 : 0 < n) (a b : Int) (w : World) (h : PL w lb n An cn Mv Aa ca Ab cb L) (ha : -9223372036854775808 ≤ a ∧ a ≤ 9223372036854775807) (hb : -9223372036854775808 ≤ b ∧ b ≤ 9223372036854775807) :
    Calls Try.prog 13 #[.pointer (some ⟨lb, 0, none⟩), .int .i64 a, .int .i64 b] w (JmRes (Kl.jpO L n a b) w) := by
  have hj := Lib.hid (Kl.jaK_two hL a b)
  have hI : Ints (w.alloc (.cells #[.int .i64 a, .int .i64 b] 3)) (w.alloc (.cells #[.int .i64 a, .int .i64 b] 3)).heap.size (some ⟨w.heap.size, 0, none⟩) [a, b] := ⟨row_new w [.int .i64 a, .int .i64 b] _, fun x hx => by simp at hx; rcases hx with rfl | rfl <;> assumption⟩
  go_enter Try.func13, Try.ntmps13
  go_wp2_with fail
  refine (joinAll_ok hn hn0 _ 2 [a, b] _ (h.below (al1 _ _)) hI (by simp)).mono ?_
  rintro e w' ⟨rfl, q, rfl⟩
  rw [show Kl.jaK L n [a, b] ([a, b] : List Int).length = Kl.jpO L n a b from hj.out]
  go_wp2_with fail
  go_ret2
  exact ⟨rfl, bDrew (al1 _ _) q⟩

end

theorem size_nil (w : World) : Calls Try.prog 12 #[.pointer none] w fun e w' => e = .returned (.int .i64 0) ∧ w = w' := by
  go_enter Try.func12, Try.ntmps12
  go_wp2_with fail
  go_ret
  exact ⟨rfl, rfl⟩
theorem bottom_nil (w : World) : Calls Try.prog 30 #[.pointer none] w fun e w' => e = .returned (.int .i64 0) ∧ w = w' := by
  go_enter Try.func30, Try.ntmps30
  go_wp2_with fail
  go_ret
  exact ⟨rfl, rfl⟩
theorem joinAll_nil (V : Value) (w : World) : Calls Try.prog 23 #[.pointer none, V] w fun e w' => e = .returned (.tuple #[.int .i64 0, .int .i64 1]) ∧ w = w' := by
  go_enter Try.func23, Try.ntmps23
  go_wp2_with fail
  go_ret2
  exact ⟨rfl, rfl⟩
theorem join_nil (a b : Int) (w : World) : Calls Try.prog 13 #[.pointer none, .int .i64 a, .int .i64 b] w fun e w' => e = .returned (.tuple #[.int .i64 0, .int .i64 1]) ∧ Below w.heap.size w w' := by
  go_enter Try.func13, Try.ntmps13
  go_wp2_with fail
  refine (joinAll_nil _ _).mono ?_
  rintro e w' ⟨rfl, rfl⟩
  go_wp2_with fail
  go_ret2
  exact ⟨rfl, al1 _ _⟩
theorem below_nil (a b : Int) (w : World) : Calls Try.prog 11 #[.pointer none, .int .i64 a, .int .i64 b] w fun e w' => e = .returned (.bool false) ∧ w = w' := by
  have h1 : lvB a 0 = false := by
    unfold lvB
    by_cases h : 0 ≤ a
    · rw [show decide (a < 0) = false by simp; exact h]; simp
    · rw [decide_eq_false h]; rfl
  have H1 := Lib.hid h1
  clear h1
  go_enter Try.func11, Try.ntmps11
  go_wp2_with fail
  refine (size_nil _).mono ?_
  rintro e w' ⟨rfl, rfl⟩
  go_wp2_with fail
  refine (level_any _ _ _).mono ?_
  rintro e w' ⟨rfl, rfl⟩
  rw [H1.out]
  go_wp2_with fail
  go_ret
  exact ⟨rfl, rfl⟩
set_option maxRecDepth 100000 in
theorem covers_nil (w : World) : Calls Try.prog 6 #[.pointer none] w fun e w' => e = .returned (.slice none 0 0) ∧ w = w' := by
  go_enter Try.func6, Try.ntmps6
  go_wp2_with fail
  refine (size_nil _).mono ?_
  rintro e w' ⟨rfl, rfl⟩
  go_wp2_with fail
  refine wp_loop_rounds 1 ?_
  rw [rounds_succ]
  go_wp2_with fail
  go_ret
  exact ⟨rfl, rfl⟩
theorem makeInts0 (W : World) : (Instr.makeSlice 57 (.int .i64 0) (.int .i64 0)).run Try.prog W = .ok (.slice (some ⟨W.heap.size, 0, none⟩) 0 0) (W.alloc (.cells (madeCells #[.int .i64 0] 0) 3)) :=
  run_make_row' (P := Try.prog) 57 3 (.int .i64 0) 8 Try.underlying57 (by kernel_rfl) rfl .i64 .i64 0 (by omega) (by omega) W
set_option maxRecDepth 100000 in
theorem height_nil (w : World) : Calls Try.prog 9 #[.pointer none] w fun e w' => e = .returned (.int .i64 0) ∧ Below w.heap.size w w' := by
  have hmk := makeInts0
  go_enter Try.func9, Try.ntmps9
  go_wp2_with fail
  refine (size_nil _).mono ?_
  rintro e w' ⟨rfl, rfl⟩
  go_wp2_with fail
  refine wp_loop_rounds 1 ?_
  rw [rounds_succ]
  go_wp2_with fail
  go_ret
  exact ⟨rfl, al1 _ _⟩

def ns4 : List ByteArray := [⟨#[108, 111, 119]⟩, ⟨#[108, 101, 102, 116]⟩, ⟨#[114, 105, 103, 104, 116]⟩, ⟨#[104, 105, 103, 104]⟩]
def ps4 : List (Int × Int) := [(0, 1), (0, 2), (1, 3), (2, 3)]
def ns2 : List ByteArray := [⟨#[97]⟩, ⟨#[98]⟩]
theorem k_new4 : Kl.newC ns4 ps4 = 0 := by decide +kernel
theorem k_new2 : Kl.newC ns2 [] = 11 := by decide +kernel
theorem k_join : Kl.jpO (Kl.le 4 ps4) 4 1 2 = some 3 := by decide +kernel
theorem k_be1 : beB (Kl.le 4 ps4) 4 0 3 = true := by decide +kernel
theorem k_be2 : beB (Kl.le 4 ps4) 4 1 2 = false := by decide +kernel

set_option maxRecDepth 100000 in
set_option maxHeartbeats 4000000 in
theorem known_ok (w : World) : Calls Try.prog 4 #[] w fun e w' => e = .returned (.bool true) ∧ Below w.heap.size w w' := by
  go_enter Try.func4, Try.ntmps4
  go_wp2_with fail
  have b1 : Below w.heap.size w ((w.alloc (.cells #[.string ⟨#[108, 111, 119]⟩, .string ⟨#[108, 101, 102, 116]⟩, .string ⟨#[114, 105, 103, 104, 116]⟩, .string ⟨#[104, 105, 103, 104]⟩] 9)).alloc (.cells #[.int .i64 0, .int .i64 1, .int .i64 0, .int .i64 2, .int .i64 1, .int .i64 3, .int .i64 2, .int .i64 3] 33)) := bTrans (al1 _ _) (al1 _ _)
  have hS : Strs ((w.alloc (.cells #[.string ⟨#[108, 111, 119]⟩, .string ⟨#[108, 101, 102, 116]⟩, .string ⟨#[114, 105, 103, 104, 116]⟩, .string ⟨#[104, 105, 103, 104]⟩] 9)).alloc (.cells #[.int .i64 0, .int .i64 1, .int .i64 0, .int .i64 2, .int .i64 1, .int .i64 3, .int .i64 2, .int .i64 3] 33)) ((w.alloc (.cells #[.string ⟨#[108, 111, 119]⟩, .string ⟨#[108, 101, 102, 116]⟩, .string ⟨#[114, 105, 103, 104, 116]⟩, .string ⟨#[104, 105, 103, 104]⟩] 9)).alloc (.cells #[.int .i64 0, .int .i64 1, .int .i64 0, .int .i64 2, .int .i64 1, .int .i64 3, .int .i64 2, .int .i64 3] 33)).heap.size (some ⟨w.heap.size, 0, none⟩) ns4 :=
    Strs.at ⟨row_new w (ns4.map Value.string) 9⟩ (al1 _ _)
  have hP : Prs ((w.alloc (.cells #[.string ⟨#[108, 111, 119]⟩, .string ⟨#[108, 101, 102, 116]⟩, .string ⟨#[114, 105, 103, 104, 116]⟩, .string ⟨#[104, 105, 103, 104]⟩] 9)).alloc (.cells #[.int .i64 0, .int .i64 1, .int .i64 0, .int .i64 2, .int .i64 1, .int .i64 3, .int .i64 2, .int .i64 3] 33)) ((w.alloc (.cells #[.string ⟨#[108, 111, 119]⟩, .string ⟨#[108, 101, 102, 116]⟩, .string ⟨#[114, 105, 103, 104, 116]⟩, .string ⟨#[104, 105, 103, 104]⟩] 9)).alloc (.cells #[.int .i64 0, .int .i64 1, .int .i64 0, .int .i64 2, .int .i64 1, .int .i64 3, .int .i64 2, .int .i64 3] 33)).heap.size (some ⟨w.heap.size + 1, 0, none⟩) ps4 := by
    have h1 := row_new (w.alloc (.cells #[.string ⟨#[108, 111, 119]⟩, .string ⟨#[108, 101, 102, 116]⟩, .string ⟨#[114, 105, 103, 104, 116]⟩, .string ⟨#[104, 105, 103, 104]⟩] 9)) (flat ps4) 33
    have h2 : (w.alloc (.cells #[.string ⟨#[108, 111, 119]⟩, .string ⟨#[108, 101, 102, 116]⟩, .string ⟨#[114, 105, 103, 104, 116]⟩, .string ⟨#[104, 105, 103, 104]⟩] 9)).heap.size = w.heap.size + 1 := World.size_alloc _ _
    rw [h2] at h1
    exact ⟨h1⟩
  revert b1 hS hP
  generalize (w.alloc (.cells #[.string ⟨#[108, 111, 119]⟩, .string ⟨#[108, 101, 102, 116]⟩, .string ⟨#[114, 105, 103, 104, 116]⟩, .string ⟨#[104, 105, 103, 104]⟩] 9)).alloc (.cells #[.int .i64 0, .int .i64 1, .int .i64 0, .int .i64 2, .int .i64 1, .int .i64 3, .int .i64 2, .int .i64 3] 33) = w1
  intro b1 hS hP
  refine (new_any _ 4 ns4 _ 4 ps4 _ hS hP (by decide) (by decide)).mono ?_
  rintro e w2 ⟨hb2, ⟨hx, _⟩ | ⟨_, lb, rfl, An, cn, M, Aa, ca, Ab, cb, hPL, _, _⟩⟩
  · exact absurd k_new4 hx
  have b2 := bTrans b1 hb2
  clear hS hP b1 hb2
  have hlat := (Kl.newC_lat k_new4).2.2.1
  change PL w2 lb 4 An cn (.map (some M)) Aa ca Ab cb (Kl.le 4 ps4) at hPL
  go_wp2_with fail
  refine (size_ok _ hPL).mono ?_
  rintro e w' ⟨rfl, rfl⟩
  go_wp2_with fail
  refine (join_ok hlat (by decide) (by decide) 1 2 _ hPL (by decide) (by decide)).mono ?_
  rintro e w3 ⟨rfl, hb3⟩
  rw [show Kl.jpO (Kl.le ns4.length ps4) ns4.length 1 2 = some 3 from k_join]
  have b3 := bTrans b2 hb3
  have hPL3 := hPL.below hb3
  clear hPL b2 hb3
  have n1 : Kl.num (some 3) = 3 := rfl
  have n2 : Kl.jaC (some 3) = 0 := rfl
  rw [n1, n2]
  clear n1 n2
  go_wp2_with fail
  have b4 := al1 w3 (.cells #[.string ⟨#[97]⟩, .string ⟨#[98]⟩] 9)
  have hS : Strs (w3.alloc (.cells #[.string ⟨#[97]⟩, .string ⟨#[98]⟩] 9)) (w3.alloc (.cells #[.string ⟨#[97]⟩, .string ⟨#[98]⟩] 9)).heap.size (some ⟨w3.heap.size, 0, none⟩) ns2 := ⟨row_new w3 (ns2.map Value.string) 9⟩
  refine (new_any _ 2 ns2 none 0 [] _ hS ⟨Row.nil _ _ _⟩ (by decide) (by decide)).mono ?_
  rintro e w5 ⟨hb5, ⟨_, rfl⟩ | ⟨hx, _⟩⟩
  rotate_left
  · rw [k_new2] at hx; exact absurd hx (by decide)
  rw [k_new2]
  have hPL5 := (hPL3.below b4).below hb5
  have b5 := bTrans (bTrans b3 b4) hb5
  clear hPL3 b3 b4 hb5 hS
  have hbe1 : Calls Try.prog 11 #[.pointer (some ⟨lb, 0, none⟩), .int .i64 0, .int .i64 3] w5 fun e w' => e = .returned (.bool true) ∧ w5 = w' := by
    have := below_ok (by decide) 0 3 _ hPL5
    rw [k_be1] at this; exact this
  have hbe2 : Calls Try.prog 11 #[.pointer (some ⟨lb, 0, none⟩), .int .i64 1, .int .i64 2] w5 fun e w' => e = .returned (.bool false) ∧ w5 = w' := by
    have := below_ok (by decide) 1 2 _ hPL5
    rw [k_be2] at this; exact this
  have H1 := Lib.hid hbe1
  have H2 := Lib.hid hbe2
  clear hbe1 hbe2
  go_wp2_with fail
  refine H1.out.mono ?_
  rintro e w' ⟨rfl, rfl⟩
  go_wp2_with fail
  refine H2.out.mono ?_
  rintro e w' ⟨rfl, rfl⟩
  go_wp2_with fail
  go_ret
  exact ⟨rfl, b5⟩
end Go.Proofs.Ytcckocaaoklibaa
