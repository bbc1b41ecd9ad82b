/- Walks: known. -/
import Derived.Test.YtkcnaedffcmodaaRa
namespace Go.Proofs.Ytkcnaedffcmodaa
open Go.RowKit Go.Maps
set_option linter.unusedVariables false

namespace Kd
def kvs : List V := [⟨⟨#[97]⟩, 1, 0, 2, 0⟩, ⟨⟨#[112]⟩, 2, 5, 5, 0⟩, ⟨⟨#[98]⟩, 1, -1, 0, 0⟩]
theorem k_sp : spN 1 kvs = 6 ∧ code 1 kvs = 0 := by decide +kernel
theorem k_ra : raN 1 kvs [1, 0] = 3 ∧ raC 1 kvs [1, 0] = 0 := by decide +kernel
theorem k_ua : uaX 1 kvs 4 = [2, -1] ∧ uaC 1 kvs 4 = 0 := by decide +kernel
end Kd
theorem row_new (w : World) (xs : Array Value) (T : TypeId) : Row (w.alloc (.cells xs T)) (w.alloc (.cells xs T)).heap.size (some ⟨w.heap.size, 0, none⟩) xs.toList :=
  ⟨fun _ => ⟨w.heap.size, 0, rfl, by simp, fun k u hu => by
    rw [Nat.zero_add, cell_of_row _ _ k _ _ _ (heap_alloc_new w _)]; simpa using hu⟩⟩
theorem kvs_new (w : World) : Vrs (w.alloc (.cells #[.string ⟨#[97]⟩, .int .i64 1, .int .i64 0, .int .i64 2, .int .i64 0, .string ⟨#[112]⟩, .int .i64 2, .int .i64 5, .int .i64 5, .int .i64 0, .string ⟨#[98]⟩, .int .i64 1, .int .i64 (-1), .int .i64 0, .int .i64 0] 51)) (w.alloc (.cells #[.string ⟨#[97]⟩, .int .i64 1, .int .i64 0, .int .i64 2, .int .i64 0, .string ⟨#[112]⟩, .int .i64 2, .int .i64 5, .int .i64 5, .int .i64 0, .string ⟨#[98]⟩, .int .i64 1, .int .i64 (-1), .int .i64 0, .int .i64 0] 51)).heap.size (some ⟨w.heap.size, 0, none⟩) Kd.kvs :=
  ⟨row_new w _ _, fun v hv => by
    unfold Kd.kvs at hv
    simp only [List.mem_cons, List.not_mem_nil, or_false] at hv
    unfold inI
    rcases hv with rfl | rfl | rfl <;> simp⟩
theorem two_ints (w : World) (a b : Int) (h : ∀ x ∈ [a, b], -9223372036854775808 ≤ x ∧ x ≤ 9223372036854775807) :
    Ints (w.alloc (.cells #[.int .i64 a, .int .i64 b] 3)) (w.alloc (.cells #[.int .i64 a, .int .i64 b] 3)).heap.size (some ⟨w.heap.size, 0, none⟩) [a, b] :=
  (IBlk.new_ w [a, b]).ints (by simp) h

set_option maxRecDepth 100000 in
set_option maxHeartbeats 2000000 in
theorem known_ok (w : World) : Calls Try.prog 11 #[] w fun e w' => e = .returned (.bool true) ∧ Below w.heap.size w w' := by
  have HS := Lib.hid Kd.k_sp
  have HR := Lib.hid Kd.k_ra
  have HU := Lib.hid Kd.k_ua
  go_enter Try.func11, Try.ntmps11
  go_wp2_with fail
  have V1 := kvs_new w
  have B1 := newB1 w (.cells #[.string ⟨#[97]⟩, .int .i64 1, .int .i64 0, .int .i64 2, .int .i64 0, .string ⟨#[112]⟩, .int .i64 2, .int .i64 5, .int .i64 5, .int .i64 0, .string ⟨#[98]⟩, .int .i64 1, .int .i64 (-1), .int .i64 0, .int .i64 0] 51)
  revert V1 B1
  generalize w.alloc (.cells #[.string ⟨#[97]⟩, .int .i64 1, .int .i64 0, .int .i64 2, .int .i64 0, .string ⟨#[112]⟩, .int .i64 2, .int .i64 5, .int .i64 5, .int .i64 0, .string ⟨#[98]⟩, .int .i64 1, .int .i64 (-1), .int .i64 0, .int .i64 0] 51) = w1
  intro V1 B1
  have hk : Kd.kvs.length = 3 := rfl
  have HK := Lib.hid hk
  clear hk
  refine (space_any (some ⟨w.heap.size, 0, none⟩) 3 Kd.kvs 1 _ V1 (by rw [HK.out]; omega)).mono ?_
  rintro e w2 ⟨rfl, n2⟩
  rw [HS.out.1, HS.out.2]
  have V2 := V1.at n2
  have B2 := bTrans B1 n2
  clear V1 B1 n2
  go_wp2_with fail
  have n3 := newB1 w2 (.cells #[.int .i64 1, .int .i64 0] 3)
  have X3 := two_ints w2 1 0 (by decide)
  refine (rank_all (some ⟨w.heap.size, 0, none⟩) 3 Kd.kvs 1 (some ⟨w2.heap.size, 0, none⟩) 2 [1, 0] _ (V2.at n3) (by rw [HK.out]; omega) X3).mono ?_
  rintro e w4 ⟨rfl, n4⟩
  rw [HR.out.1, HR.out.2]
  have V4 := (V2.at n3).at n4
  have B4 := bTrans (bTrans B2 n3) n4
  clear V2 B2 n3 n4 X3
  go_wp2_with fail
  refine (unrank_all (some ⟨w.heap.size, 0, none⟩) 3 Kd.kvs 1 4 _ V4 (by rw [HK.out]; omega)).mono ?_
  rintro e w5 ⟨A5, c5, rfl, I5, n5⟩
  rw [HU.out.1] at I5 ⊢
  rw [HU.out.2]
  have B5 := bTrans B4 n5
  obtain ⟨b, off, x, rfl, hb, c0, hx⟩ := I5.at_ (k := 0) (by decide)
  obtain ⟨b2, off2, y, e2, hb2, c1, hy⟩ := I5.at_ (k := 1) (by decide)
  injection e2 with e2
  injection e2 with e3 e4
  subst e3 e4
  have hx2 : x = 2 := hx.out.1
  have hy2 : y = -1 := hy.out.1
  subst hx2 hy2
  rw [Nat.add_zero] at c0
  go_wp2_with fail
  go_ret
  exact ⟨rfl, B5⟩
end Go.Proofs.Ytkcnaedffcmodaa
