/- Walks: the law's known. -/
import Derived.Test.YtmhfdmidaheoeaaDoorT5
import Derived.Test.YtmhfdmidaheoeaaDoorW9
namespace Go.Proofs.YtmhfdmidaheoeaaDoor
open Go.RowKit
set_option linter.unusedVariables false

def kz : Int := -18446744078004518912
def kx : List Nat := [0, 1]
def ky : List Nat := [1, 1]
theorem kz_eq : Kn.iv true kx * Kn.iv false ky = kz := by decide +kernel
theorem kz_text : Lib.itoa kz = [45, 49, 56, 52, 52, 54, 55, 52, 52, 48, 55, 56, 48, 48, 52, 53, 49, 56, 57, 49, 50] := by
  have h := Lib.itoa_neg 18446744078004518912 (by decide)
  have e : Lib.decDigits 18446744078004518912 = [49, 56, 52, 52, 54, 55, 52, 52, 48, 55, 56, 48, 48, 52, 53, 49, 56, 57, 49, 50] := by decide +kernel
  rw [e] at h
  exact h

set_option maxRecDepth 100000 in
set_option maxHeartbeats 1000000 in
theorem known_ok (w : World) (ht : Tabs w) : Calls Tryd.prog 6 #[] w fun e w' => e = .returned (.bool true) ∧ Below w.heap.size w w' := by
  have HM : Hid (∀ (w : World) (A B : Addr), Sl w w.heap.size (some A) 2 kx → Sl w w.heap.size (some B) 2 ky → Calls Tryd.prog 14 #[.agg #[.bool true, .slice (some A) 2 2], .agg #[.bool false, .slice (some B) 2 2]] w (IntRes kz w)) := Lib.hid (fun w A B h1 h2 => by
    have := mul_any true (some A) 2 kx false (some B) 2 ky w h1 h2 (by decide) (by decide)
    rwa [kz_eq] at this)
  have HT : Hid (∀ (w : World) (A : Option Addr) (c : Nat), Tabs w → Sl w w.heap.size A c (Kn.dig kz.natAbs) → Calls Tryd.prog 21 #[.agg #[.bool (decide (kz < 0)), .slice A (Kn.dig kz.natAbs).length c]] w fun e w' => e = .returned (.string ⟨#[45, 49, 56, 52, 52, 54, 55, 52, 52, 48, 55, 56, 48, 48, 52, 53, 49, 56, 57, 49, 50]⟩) ∧ Below w.heap.size w w') := Lib.hid (fun w A c ht h => by
    have := text_any (decide (kz < 0)) A c (Kn.dig kz.natAbs) w h (Nat.le_trans (Kn.dig_len_le (k := 3) (by decide +kernel)) (by decide)) ht
    rw [Kn.iv_dig, kz_text] at this
    exact this)
  have HV : Hid (∀ (w : World), Calls Tryd.prog 24 #[.agg #[.bool true, .slice none 0 0]] w fun e w' => e = .returned (.bool false) ∧ Below w.heap.size w w') := Lib.hid (fun w => valid_any true none 0 [] w (Sl.nil _ _) (by decide))
  generalize kz = z at HM HT
  go_enter Tryd.func6, Tryd.ntmps6
  go_wp2_with fail
  have b1 : Blk .u32 39 ((w.alloc (.cells #[.int .u32 0, .int .u32 1] 39)).alloc (.cells #[.int .u32 1, .int .u32 1] 39)) w.heap.size kx := (Blk.new_ .u32 39 w kx).alloc _
  have b2 : Blk .u32 39 ((w.alloc (.cells #[.int .u32 0, .int .u32 1] 39)).alloc (.cells #[.int .u32 1, .int .u32 1] 39)) (w.heap.size + 1) ky := by
    have h := Blk.new_ .u32 39 (w.alloc (.cells #[.int .u32 0, .int .u32 1] 39)) ky
    have e : (w.alloc (.cells #[.int .u32 0, .int .u32 1] 39)).heap.size = w.heap.size + 1 := by simp
    rw [e] at h
    exact h
  have bB : Below w.heap.size w ((w.alloc (.cells #[.int .u32 0, .int .u32 1] 39)).alloc (.cells #[.int .u32 1, .int .u32 1] 39)) := ((Below.refl _ _).alloc (Nat.le_refl _) _).alloc (by simp) _
  revert b1 b2 bB
  generalize (w.alloc (.cells #[.int .u32 0, .int .u32 1] 39)).alloc (.cells #[.int .u32 1, .int .u32 1] 39) = w1
  intro b1 b2 bB
  refine (HM.out w1 ⟨w.heap.size, 0, none⟩ ⟨w.heap.size + 1, 0, none⟩ ⟨b1.nums b1.lt, (by intro x hx; simp [kx] at hx; omega), by decide, fun e => by cases e⟩ ⟨b2.nums b2.lt, (by intro x hx; simp [ky] at hx; omega), by decide, fun e => by cases e⟩).mono ?_
  rintro e w2 ⟨A, c, rfl, hS, hb2⟩
  have bB2 := bB.trans (hb2.mono bB.size)
  clear b1 b2 hb2
  go_wp2_with fail
  have t1 := Two.new_ w2 (.bool (decide (z < 0))) (.slice A (Kn.dig z.natAbs).length c) 24
  have hS2 : Sl (w2.alloc (.cells #[.bool (decide (z < 0)), .slice A (Kn.dig z.natAbs).length c] 24)) (w2.alloc (.cells #[.bool (decide (z < 0)), .slice A (Kn.dig z.natAbs).length c] 24)).heap.size A c (Kn.dig z.natAbs) := (hS.alloc (Nat.le_refl _) _).more (by simp)
  have bB3 := bB2.alloc bB2.size (.cells #[.bool (decide (z < 0)), .slice A (Kn.dig z.natAbs).length c] 24)
  revert t1 hS2 bB3
  generalize w2.alloc (.cells #[.bool (decide (z < 0)), .slice A (Kn.dig z.natAbs).length c] 24) = w3
  intro t1 hS2 bB3
  have c0 := t1.c0
  have c1 := t1.c1
  go_wp2_with fail
  refine (HT.out w3 A c (ht.below bB3) hS2).mono ?_
  rintro e w4 ⟨rfl, hb4⟩
  have bB4 := bB3.trans (hb4.mono bB3.size)
  clear c0 c1
  go_wp2_with fail
  refine (HV.out w4).mono ?_
  rintro e w5 ⟨rfl, hb5⟩
  go_wp2_with fail
  go_ret
  exact ⟨rfl, bB4.trans (hb5.mono bB4.size)⟩
end Go.Proofs.YtmhfdmidaheoeaaDoor
