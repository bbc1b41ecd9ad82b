/- Walks: the reference's Of. -/
import Derived.Test.YtcicejmahlobhaaDoorW2
namespace Go.Proofs.YtcicejmahlobhaaDoor
open Go.RowKit Go.Maps
set_option linter.unusedVariables false

namespace Kp
/-- the class that the reference has found behind j looks -/
def cin (f : Nat → Int) (k j : Nat) : Nat := if (List.range j).any (fun i => f i == f k) then cls f k else rank f k
theorem cin_hit {f : Nat → Int} {k j : Nat} (h : f j = f k) : cin f k (j + 1) = cls f j := by
  unfold cin
  rw [if_pos (List.any_eq_true.2 ⟨j, List.mem_range.2 (by omega), by simpa using h⟩), cls_same h]
theorem cin_miss {f : Nat → Int} {k j : Nat} (h : f j ≠ f k) : cin f k (j + 1) = cin f k j := by
  have : (f j == f k) = false := by simpa using h
  unfold cin
  rw [List.range_succ, List.any_append]
  simp [this]
theorem cin_zero (f : Nat → Int) (k : Nat) : cin f k 0 = rank f k := rfl
theorem cin_end (f : Nat → Int) (k : Nat) : cin f k k = cls f k := by
  unfold cin
  split
  · rfl
  · rename_i h
    refine (cls_new (newB_true.2 fun j hj e => h ?_)).symm
    exact List.any_eq_true.2 ⟨j, List.mem_range.2 hj, by simpa using e⟩
end Kp

/-- the reference's world in the loop: a row of its own -/
structure OwInv (w wr : World) (v : Value) (zs : List Int) : Prop where
  own : wr.ownsRow w.heap.size 3 1 v zs.length (zvals zs)
  bel : Below w.heap.size w wr
theorem OwInv.below {w wr wx : World} {v : Value} {zs : List Int} (h : OwInv w wr v zs) (hb : Below wr.heap.size wr wx) : OwInv w wx v zs :=
  ⟨own_below h.own hb, h.bel.trans (hb.mono h.bel.size)⟩
theorem OwInv.drewN {w wr : World} {v : Value} {zs : List Int} (h : OwInv w wr v zs) (n : Nat) : OwInv w (wr.drewN n) v zs := h.below ⟨rfl, rfl, rfl, Nat.le_refl _, fun _ _ => rfl⟩
theorem OwInv.grown {w wr w3 : World} {v v' : Value} {zs : List Int} {x : Int} {o : Obj} (h : OwInv w wr v zs)
    (ho : w3.ownsRow w.heap.size 3 1 v' (zs.length + 1) (zvals zs ++ [.int .i64 x])) (hg : (wr.alloc o).grownBy w3 v.ownBlock) : OwInv w w3 v' (zs ++ [x]) where
  own := by rw [zvals_snoc, List.length_append]; exact ho
  bel := (h.bel.alloc h.bel.size o).grown hg (by have := h.bel.size; simp; omega) (fun k e => (h.own.lt k e).1)
theorem OwInv.nil (w : World) : OwInv w w (.slice none 0 0) [] := ⟨World.ownsRow_nil _ _ _ _, Below.refl _ _⟩
theorem OwInv.res {w wr : World} {v : Value} {zs : List Int} (h : OwInv w wr v zs) (hlt : ∀ x ∈ zs, -9223372036854775808 ≤ x ∧ x ≤ 9223372036854775807) : ∃ A c, v = .slice A zs.length c ∧ Ints wr wr.heap.size A zs ∧ Below w.heap.size w wr := by
  obtain ⟨A, c, hv⟩ := own_slice h.own
  have ho := h.own
  rw [hv] at ho
  exact ⟨A, c, hv, ints_of_own ho hlt, h.bel⟩

set_option maxRecDepth 100000 in
set_option maxHeartbeats 2000000 in
theorem rof_any (A : Option Addr) (c : Nat) (zs : List Int) (w : World) (h : Ints w w.heap.size A zs) (hl : zs.length ≤ 1000000) :
    Calls Tryd.prog 19 #[.slice A zs.length c] w (IntsRes (Kp.ofL zs) w) := by
  obtain ⟨i0, hi, hz0, hz1, hz2⟩ := info_parts infoInt
  obtain ⟨f, hf⟩ : ∃ f, Hid (Kp.lab zs = f) := ⟨_, Lib.hid rfl⟩
  go_enter Tryd.func19, Tryd.ntmps19
  go_wp2_with fail
  go_loopw [3, 4, 5] (fun v nv iv wr => ∃ k : Nat, k ≤ zs.length ∧ iv = .int .i64 k ∧ nv = .int .i64 (Kp.rank f k : Nat) ∧ OwInv w wr v (Kp.ofF f k)) (fun _ _ iv _ => zs.length - (intOf iv).toNat)
  case atStart => exact ⟨0, Nat.zero_le _, rfl, rfl, OwInv.nil w⟩
  case round =>
    obtain ⟨k, hk, rfl, rfl, I⟩ := hrel
    have hrk := Kp.rank_le f k
    by_cases hlt : k < zs.length
    · obtain ⟨A', c', rfl, hI, _⟩ := I.res (Kp.ofF_bd f k (by omega))
      have hlen : Hid ((Kp.ofF f k).length = k) := Lib.hid (Kp.ofF_length f k)
      rw [hlen.out] at I
      rw [hlen.out]
      obtain ⟨b, off, x, rfl, hbb, hc, hx⟩ := (h.below I.bel).at_ hlt
      have hxl : Hid (x = f k) := Lib.hid (by rw [← hf.out]; exact hx.out.1)
      go_wp2_with fail
      go_loopw [6, 7] (fun cv jv wr2 => ∃ j q d : Nat, j ≤ k ∧ jv = .int .i64 j ∧ cv = .int .i64 d ∧ Hid (d = Kp.cin f k j) ∧ wr2 = wr.drewN q) (fun _ jv _ => k - (intOf jv).toNat)
      case atStart => exact ⟨0, 0, _, Nat.zero_le _, rfl, rfl, Lib.hid (Kp.cin_zero f k).symm, rfl⟩
      case round =>
        obtain ⟨j, q, d, hj, rfl, rfl, hd, rfl⟩ := hrel
        by_cases hjk : j < k
        · obtain ⟨_, _, y, hA, hbb2, hc2, hy⟩ := (h.below I.bel).at_ (k := j) (by omega)
          cases hA
          have hyl : Hid (y = f j) := Lib.hid (by rw [← hf.out]; exact hy.out.1)
          by_cases hyx : y = x
          · obtain ⟨b3, off3, z, rfl, hbb3, hc3, hz⟩ := hI.at_ (k := j) (by rw [hlen.out]; exact hjk)
            have hzl : Hid (z = (Kp.cin f k (j + 1) : Int)) := Lib.hid (by
              rw [Kp.cin_hit (by rw [← hyl.out, ← hxl.out]; exact hyx), hz.out.1]
              exact Kp.lab_ofF f k j hjk)
            subst hyx
            go_wp2_with fail
            go_quiet (fail)
            go_wp2_with fail
            go_roundw
            case rel => exact ⟨j + 1, _, _, by omega, by go_num, by rw [hzl.out], Lib.hid rfl, rfl⟩
            case measure => simp [intOf]; omega
          · have hyx1 : (y == x) = false := by simpa using hyx
            have hR : Hid (d = Kp.cin f k (j + 1)) := Lib.hid (by rw [Kp.cin_miss (by rw [← hyl.out, ← hxl.out]; exact hyx)]; exact hd.out)
            clear hyx
            go_wp2_with fail
            go_quiet (fail)
            go_wp2_with fail
            go_roundw
            case rel => exact ⟨j + 1, _, d, by omega, by go_num, rfl, hR, rfl⟩
            case measure => simp [intOf]; omega
        · obtain rfl : j = k := by omega
          have I2 := I.drewN q
          revert I2
          generalize wr.drewN q = wm
          intro I2
          have hdc : Hid (d = Kp.cls f j) := Lib.hid (by rw [hd.out, Kp.cin_end])
          have hsn : Hid (Kp.ofF f (j + 1) = Kp.ofF f j ++ [(d : Int)]) := Lib.hid (by rw [Kp.ofF_succ, hdc.out])
          have ho := I2.own
          rw [hlen.out] at ho
          have hz := I2.bel.size
          cases hn : Kp.newB f j with
          | true =>
            have hr1 : Hid (d = Kp.rank f j) := Lib.hid (by rw [hdc.out, Kp.cls_new hn])
            have hr2 : Hid (Kp.rank f (j + 1) = Kp.rank f j + 1) := Lib.hid (Kp.rank_new hn)
            rw [← hr1.out]
            have hdl : d ≤ 1000000 := by rw [hr1.out]; omega
            clear hn hrk
            go_wp2_with (at_builtin; refine wpList_append_own _ rfl _ _ 33 rfl w.heap.size 3 i0 (.int .i64 0) 1 8 Tryd.underlying33 hi hz0 hz1 hz2 rfl (by decide) _ _ _ rfl (ho.alloc _) ⟨wm.heap.size, 0, none⟩ 1 1 [.int .i64 (d : Int)] rfl rfl ?c1 ?c2 ?c3 ?c4 ?c5 ?_)
            case c1 => exact cell_one_new _ _ _
            case c2 => intro u hu; simp at hu; subst hu; rfl
            case c3 => unfold maxLen; omega
            case c4 => omega
            case c5 => simp; omega
            intro v' w3 hown' hgrow _
            have I3 := OwInv.grown I2 (by rw [hlen.out]; exact hown') hgrow
            rw [← hsn.out] at I3
            go_wp2_with fail
            go_roundw
            case rel => exact ⟨j + 1, by omega, by go_num, by rw [hr2.out, ← hr1.out]; go_num, I3⟩
            case measure => simp [intOf]; omega
          | false =>
            have hlt2 : d < Kp.rank f j := by rw [hdc.out]; exact Kp.cls_old hn
            have hr2 : Hid (Kp.rank f (j + 1) = Kp.rank f j) := Lib.hid (Kp.rank_old hn)
            have hne1 : ((d : Int) == ((Kp.rank f j : Nat) : Int)) = false := by simp; omega
            have hne2 : (d == Kp.rank f j) = false := by simp; omega
            clear hn
            go_wp2_with (at_builtin; refine wpList_append_own _ rfl _ _ 33 rfl w.heap.size 3 i0 (.int .i64 0) 1 8 Tryd.underlying33 hi hz0 hz1 hz2 rfl (by decide) _ _ _ rfl (ho.alloc _) ⟨wm.heap.size, 0, none⟩ 1 1 [.int .i64 (d : Int)] rfl rfl ?c1 ?c2 ?c3 ?c4 ?c5 ?_)
            case c1 => exact cell_one_new _ _ _
            case c2 => intro u hu; simp at hu; subst hu; rfl
            case c3 => unfold maxLen; omega
            case c4 => omega
            case c5 => simp; omega
            intro v' w3 hown' hgrow _
            have I3 := OwInv.grown I2 (by rw [hlen.out]; exact hown') hgrow
            rw [← hsn.out] at I3
            go_wp2_with fail
            go_roundw
            case rel => exact ⟨j + 1, by omega, by go_num, by rw [hr2.out], I3⟩
            case measure => simp [intOf]; omega
    · obtain rfl : k = zs.length := by omega
      have hof : Kp.ofL zs = Kp.ofF f zs.length := by rw [← hf.out]; rfl
      obtain ⟨A', c', rfl, hI, hB⟩ := I.res (Kp.ofF_bd f _ hl)
      go_wp2_with fail
      go_ret
      exact ⟨A', c', by rw [hof]; rfl, by rw [hof]; exact hI, hB⟩
end Go.Proofs.YtcicejmahlobhaaDoor
