/- Walks: known, the chapter's examples. -/
import Derived.Test.YtcicejmahlobhaaDoorW8
import Derived.Test.YtcicejmahlobhaaDoorW5p
namespace Go.Proofs.YtcicejmahlobhaaDoor
open Go.RowKit Go.Maps
set_option linter.unusedVariables false

theorem k_of : Kp.ofL [7, 3, 7, 9] = [0, 1, 0, 2] := by decide
theorem k_vp : Kp.vB [0, 1, 0, 2] = true := by decide
theorem k_vq : Kp.vB [0, 0, 1, 1] = true := by decide
theorem k_cnt : Kp.cnt0 [0, 1, 0, 2] = 3 := by decide
theorem k_prs : Kp.prL [0, 1, 0, 2] = 5 := by decide
theorem k_code : Kp.code [0, 1, 0, 2] [0, 0, 1, 1] = 0 := by decide
theorem k_meet : Kp.IsMeet [0, 1, 0, 2] [0, 0, 1, 1] [0, 1, 2, 3] := by
  have h := Kp.mlab_meet (p := [0, 1, 0, 2]) k_vq rfl
  rw [show Kp.ofF (Kp.mlab [0, 1, 0, 2] [0, 0, 1, 1]) ([0, 1, 0, 2] : List Int).length = [0, 1, 2, 3] by decide] at h
  exact h
theorem k_join : Kp.IsJoin [0, 1, 0, 2] [0, 0, 1, 1] [0, 0, 0, 0] where
  v := by decide
  len := rfl
  iff := fun i j hi hj => by
    have key : ∀ i, i < 4 → Kp.Jn (Kp.lab [0, 1, 0, 2]) (Kp.lab [0, 0, 1, 1]) 4 i 0 := fun i hi => by
      match i, hi with
      | 0, _ => exact .refl 0 (by decide)
      | 1, _ => exact .one (by decide) (by decide) (.inr rfl)
      | 2, _ => exact .one (by decide) (by decide) (.inl rfl)
      | 3, _ => exact .head 3 2 0 (by decide) (by decide) (.inr rfl) (.one (by decide) (by decide) (.inl rfl))
    have hz : ∀ i, i < 4 → Kp.lab [0, 0, 0, 0] i = 0 := fun i hi => by
      match i, hi with
      | 0, _ => rfl
      | 1, _ => rfl
      | 2, _ => rfl
      | 3, _ => rfl
    constructor
    · intro _; exact (key i hi).trans (key j hj).symm
    · intro _; rw [hz i hi, hz j hj]

theorem ints4 (w : World) (a b c d : Int) (h : ∀ x ∈ [a, b, c, d], -9223372036854775808 ≤ x ∧ x ≤ 9223372036854775807) :
    Ints (w.alloc (.cells #[.int .i64 a, .int .i64 b, .int .i64 c, .int .i64 d] 3)) (w.alloc (.cells #[.int .i64 a, .int .i64 b, .int .i64 c, .int .i64 d] 3)).heap.size (some ⟨w.heap.size, 0, none⟩) [a, b, c, d] :=
  (IBlk.new_ w [a, b, c, d]).ints (by simp) h
theorem bAlloc {w w1 : World} (h : Below w.heap.size w w1) (o : Obj) : Below w.heap.size w (w1.alloc o) := h.alloc h.size o
theorem newB1 (w : World) (o : Obj) : Below w.heap.size w (w.alloc o) := (Below.refl _ _).alloc (Nat.le_refl _) o
theorem bTrans {w w1 w2 : World} (h : Below w.heap.size w w1) (h2 : Below w1.heap.size w1 w2) : Below w.heap.size w w2 := h.trans (h2.mono h.size)

set_option maxRecDepth 100000 in
set_option maxHeartbeats 2000000 in
theorem known_ok (w : World) : Calls Tryd.prog 13 #[] w fun e w' => e = .returned (.bool true) ∧ Below w.heap.size w w' := by
  have hOf : ∀ (A : Option Addr) (c : Nat) (W : World), Ints W W.heap.size A [7, 3, 7, 9] → Calls Tryd.prog 39 #[.slice A 4 c] W (IntsRes [0, 1, 0, 2] W) := fun A c W h => by
    have := of_any A c [7, 3, 7, 9] W h (by decide)
    rw [k_of] at this
    exact this
  go_enter Tryd.func13, Tryd.ntmps13
  go_wp2_with fail
  refine (hOf _ _ _ (ints4 w 7 3 7 9 (by decide))).mono ?_
  rintro e w1 ⟨A1, c1, rfl, hp, hb1⟩
  have B1 := bTrans (newB1 w _) hb1
  clear hb1 hOf
  go_wp2_with fail
  have hp2 := hp.at (newB1 w1 (.cells #[.int .i64 0, .int .i64 0, .int .i64 1, .int .i64 1] 3))
  have hq2 := ints4 w1 0 0 1 1 (by decide)
  have B2 := bAlloc B1 (.cells #[.int .i64 0, .int .i64 0, .int .i64 1, .int .i64 1] 3)
  clear hp B1
  refine (bmeet_ok A1 c1 [0, 1, 0, 2] _ 4 [0, 0, 1, 1] _ hp2 hq2 (by decide) (by decide) k_code).mono ?_
  rintro e w3 ⟨m, A2, c2, hm, rfl, hmI, hb3⟩
  obtain rfl : m = [0, 1, 2, 3] := hm.uniq k_meet
  have B3 := bTrans B2 hb3
  have hp3 := hp2.at hb3
  clear hp2 hq2 B2 hb3 hm
  go_wp2_with fail
  have n3 := newB1 w3 (.cells #[.int .i64 0, .int .i64 0, .int .i64 1, .int .i64 1] 3)
  have hp4 := hp3.at n3
  have hm4 := hmI.at n3
  have hq4 := ints4 w3 0 0 1 1 (by decide)
  have B4 := bAlloc B3 (.cells #[.int .i64 0, .int .i64 0, .int .i64 1, .int .i64 1] 3)
  clear hp3 hmI B3 n3
  refine (bjoin_ok A1 c1 [0, 1, 0, 2] _ 4 [0, 0, 1, 1] _ hp4 hq4 (by decide) (by decide) k_code).mono ?_
  rintro e w5 ⟨j, A3, c3, hj, rfl, hjI, hb5⟩
  obtain rfl : j = [0, 0, 0, 0] := hj.uniq k_join
  have B5 := bTrans B4 hb5
  have hp5 := hp4.at hb5
  have hm5 := hm4.at hb5
  clear hp4 hm4 hq4 B4 hb5 hj
  go_wp2_with fail
  have n5 := newB1 w5 (.cells #[.int .i64 0, .int .i64 1, .int .i64 0, .int .i64 2] 3)
  have hp6 := hp5.at n5
  have hm6 := hm5.at n5
  have hj6 := hjI.at n5
  have hq6 := ints4 w5 0 1 0 2 (by decide)
  have B6 := bAlloc B5 (.cells #[.int .i64 0, .int .i64 1, .int .i64 0, .int .i64 2] 3)
  clear hp5 hm5 hjI B5 n5
  refine (seqi_any A1 _ c1 4 [0, 1, 0, 2] [0, 1, 0, 2] _ hp6 hq6 (by decide)).mono ?_
  rintro e w7 ⟨rfl, q7, rfl⟩
  have n7 : Below (w5.alloc (.cells #[.int .i64 0, .int .i64 1, .int .i64 0, .int .i64 2] 3)).heap.size _ ((w5.alloc (.cells #[.int .i64 0, .int .i64 1, .int .i64 0, .int .i64 2] 3)).drewN q7) := bDrew (Below.refl _ _) q7
  have hp7 := hp6.at n7
  have hm7 := hm6.at n7
  have hj7 := hj6.at n7
  have B7 := bTrans B6 n7
  clear hp6 hm6 hj6 hq6 B6 n7
  rw [show (([0, 1, 0, 2] : List Int) == [0, 1, 0, 2]) = true from rfl]
  generalize (w5.alloc (.cells #[.int .i64 0, .int .i64 1, .int .i64 0, .int .i64 2] 3)).drewN q7 = w7 at *
  go_wp2_with fail
  refine (bcount_any A1 c1 [0, 1, 0, 2] _ hp7 (by decide)).mono ?_
  rintro e w8 ⟨rfl, hb8⟩
  rw [k_cnt]
  have hp8 := hp7.at hb8
  have hm8 := hm7.at hb8
  have hj8 := hj7.at hb8
  have B8 := bTrans B7 hb8
  clear hp7 hm7 hj7 B7 hb8
  go_wp2_with fail
  refine (bpairs_any A1 c1 [0, 1, 0, 2] _ hp8 (by decide)).mono ?_
  rintro e w9 ⟨rfl, hb9⟩
  rw [k_prs]
  have hm9 := hm8.at hb9
  have hj9 := hj8.at hb9
  have B9 := bTrans B8 hb9
  clear hp8 hm8 hj8 B8 hb9
  go_wp2_with fail
  have n9 := newB1 w9 (.cells #[.int .i64 0, .int .i64 1, .int .i64 2, .int .i64 3] 3)
  refine (seqi_any A2 _ c2 4 [0, 1, 2, 3] [0, 1, 2, 3] _ (hm9.at n9) (ints4 w9 0 1 2 3 (by decide)) (by decide)).mono ?_
  rintro e wx ⟨rfl, qx, rfl⟩
  have n10 : Below (w9.alloc (.cells #[.int .i64 0, .int .i64 1, .int .i64 2, .int .i64 3] 3)).heap.size _ ((w9.alloc (.cells #[.int .i64 0, .int .i64 1, .int .i64 2, .int .i64 3] 3)).drewN qx) := bDrew (Below.refl _ _) qx
  have hj10 := (hj9.at n9).at n10
  have B10 := bTrans (bTrans B9 n9) n10
  clear hm9 hj9 B9 n9 n10
  rw [show (([0, 1, 2, 3] : List Int) == [0, 1, 2, 3]) = true from rfl]
  generalize (w9.alloc (.cells #[.int .i64 0, .int .i64 1, .int .i64 2, .int .i64 3] 3)).drewN qx = w10 at *
  go_wp2_with fail
  have n11 := newB1 w10 (.cells #[.int .i64 0, .int .i64 0, .int .i64 0, .int .i64 0] 3)
  refine (seqi_any A3 _ c3 4 [0, 0, 0, 0] [0, 0, 0, 0] _ (hj10.at n11) (ints4 w10 0 0 0 0 (by decide)) (by decide)).mono ?_
  rintro e wy ⟨rfl, qy, rfl⟩
  have n12 : Below (w10.alloc (.cells #[.int .i64 0, .int .i64 0, .int .i64 0, .int .i64 0] 3)).heap.size _ ((w10.alloc (.cells #[.int .i64 0, .int .i64 0, .int .i64 0, .int .i64 0] 3)).drewN qy) := bDrew (Below.refl _ _) qy
  have B12 := bTrans (bTrans B10 n11) n12
  rw [show (([0, 0, 0, 0] : List Int) == [0, 0, 0, 0]) = true from rfl]
  go_wp2_with fail
  go_ret
  exact ⟨rfl, B12⟩
end Go.Proofs.YtcicejmahlobhaaDoor
