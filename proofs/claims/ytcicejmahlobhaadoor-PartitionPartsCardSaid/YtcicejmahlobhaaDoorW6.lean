/- Walks: Meet. -/
import Derived.Test.YtcicejmahlobhaaDoorW5

import Derived.RegionTactic
namespace Go.Proofs.YtcicejmahlobhaaDoor
open Go.RowKit Go.Maps
set_option linter.unusedVariables false

namespace Kp
/-- a list that is filled up to k -/
def fillZ (h : Nat → Int) (n k : Nat) : List Int := (List.range n).map fun i => if i < k then h i else 0
theorem fillZ_length (h : Nat → Int) (n k : Nat) : (fillZ h n k).length = n := by simp [fillZ]
theorem fillZ_zero (h : Nat → Int) (n : Nat) : fillZ h n 0 = List.replicate n 0 := by
  unfold fillZ
  rw [show (fun i => if i < 0 then h i else 0) = fun _ => (0 : Int) from funext fun i => if_neg (Nat.not_lt_zero i)]
  exact List.map_const.trans (by rw [List.length_range])
theorem fillZ_set (h : Nat → Int) (n k : Nat) (hk : k < n) : (fillZ h n k).set k (h k) = fillZ h n (k + 1) := by
  apply List.ext_getElem?
  intro i
  unfold fillZ
  rw [List.getElem?_set, List.getElem?_map, List.getElem?_map]
  by_cases e : k = i
  · subst e
    rw [if_pos rfl, if_pos (by simp; exact hk), List.getElem?_range hk]
    simp
  · rw [if_neg e]
    by_cases hi : i < n
    · rw [List.getElem?_range hi]
      have : (i < k + 1) ↔ (i < k) := by omega
      simp [this]
    · rw [List.getElem?_eq_none (by simpa using hi)]; rfl
theorem fillZ_get (h : Nat → Int) (n k i : Nat) (hi : i < n) : (fillZ h n k).getD i 0 = if i < k then h i else 0 := by
  unfold fillZ
  rw [List.getD_eq_getElem?_getD, List.getElem?_map, List.getElem?_range hi]; rfl
theorem fillZ_bd (h : Nat → Int) (n k : Nat) (N : Int) (hN : 0 ≤ N) (hb : ∀ i, i < n → 0 ≤ h i ∧ h i ≤ N) : ∀ x ∈ fillZ h n k, 0 ≤ x ∧ x ≤ N := by
  intro x hx
  obtain ⟨i, hi, rfl⟩ := List.mem_map.1 hx
  split
  · exact hb i (List.mem_range.1 hi)
  · omega
theorem ofL_fillZ (h : Nat → Int) (n : Nat) : ofL (fillZ h n n) = ofF h n := by
  unfold ofL
  rw [fillZ_length]
  refine ofF_congr fun i j hi hj => ?_
  show (fillZ h n n).getD i 0 = (fillZ h n n).getD j 0 ↔ _
  rw [fillZ_get _ _ _ _ hi, fillZ_get _ _ _ _ hj, if_pos hi, if_pos hj]
/-- the labels of a meet -/
def mlab (p q : List Int) (i : Nat) : Int := lab p i * (cntL q : Int) + lab q i
theorem mlab_meet {p q : List Int} (hq : vB q = true) (hl : p.length = q.length) : IsMeet p q (ofF (mlab p q) p.length) :=
  IsMeet.of _ fun i j hi hj => by
    unfold mlab
    have h1 := valid_lt hq (i := i) (by omega)
    have h2 := valid_lt hq (i := j) (by omega)
    constructor
    · intro e
      have e1 : lab q i = lab q j := by
        have a := Int.emod_eq_of_lt h1.1 h1.2
        have b := Int.emod_eq_of_lt h2.1 h2.2
        rw [← a, ← b, ← Int.add_mul_emod_self_right (lab q i) (lab p i), ← Int.add_mul_emod_self_right (lab q j) (lab p j), Int.add_comm (lab q i), Int.add_comm (lab q j), e]
      refine ⟨?_, e1⟩
      rw [e1] at e
      have e2 : lab p i * (cntL q : Int) = lab p j * (cntL q : Int) := by omega
      exact Int.eq_of_mul_eq_mul_right (by omega) e2
    · rintro ⟨e1, e2⟩; rw [e1, e2]
theorem mul_bd {x y : Int} {C : Nat} (hx0 : 0 ≤ x) (hx : x ≤ 1000000) (hy0 : 0 ≤ y) (hy : y ≤ 1000000) (hC : C ≤ 1000000) : 0 ≤ x * (C : Int) ∧ x * (C : Int) ≤ 1000000000000 ∧ 0 ≤ x * (C : Int) + y ∧ x * (C : Int) + y ≤ 1000001000000 := by
  obtain ⟨a, rfl⟩ := Int.eq_ofNat_of_zero_le hx0
  have h1 : a * C ≤ 1000000 * 1000000 := Nat.mul_le_mul (by omega) hC
  have h2 : (a : Int) * (C : Int) = ((a * C : Nat) : Int) := by rw [Int.natCast_mul]
  rw [h2]
  omega
end Kp

/-- what Meet and Join hand back -/
def PairRes (P : List Int → Prop) (w : World) (e : Ending) (w' : World) : Prop :=
  ∃ z A c, P z ∧ e = .returned (.tuple #[.slice A z.length c, .int .i64 0]) ∧ Ints w' w'.heap.size A z ∧ Below w.heap.size w w'
def PairErr (code : Int) (w : World) (e : Ending) (w' : World) : Prop :=
  e = .returned (.tuple #[.slice none 0 0, .int .i64 code]) ∧ Below w.heap.size w w'

set_option maxRecDepth 100000 in
set_option maxHeartbeats 1000000 in
theorem bmeet_err (A : Option Addr) (ca : Nat) (p : List Int) (B : Option Addr) (cb : Nat) (q : List Int) (w : World) (ha : Ints w w.heap.size A p) (hb : Ints w w.heap.size B q) (hlp : p.length ≤ 1000000) (hlq : q.length ≤ 1000000) (hc : Kp.code p q ≠ 0) :
    Calls Tryd.prog 40 #[.slice A p.length ca, .slice B q.length cb] w (PairErr (Kp.code p q) w) := by
  obtain ⟨C, hC⟩ : ∃ C, Hid (Kp.code p q = C) := ⟨_, Lib.hid rfl⟩
  rw [hC.out] at hc
  rw [hC.out]
  have hc1 : (C != 0) = true := by simpa using hc
  clear hc
  go_enter Tryd.func40, Tryd.ntmps40
  go_wp2_with fail
  refine (bcheck_any A ca p B cb q _ ha hb hlp hlq).mono ?_
  rintro e w' ⟨rfl, rfl⟩
  rw [hC.out]
  go_wp2_with fail
  go_ret2
  exact ⟨rfl, Below.refl _ _⟩

/-- Meet's world in the loop -/
structure MtInv (w wr : World) (g : Nat) (h : Nat → Int) (n k : Nat) : Prop where
  row : IBlk wr g (Kp.fillZ h n k)
  hg : w.heap.size ≤ g
  bel : Below w.heap.size w wr

set_option maxRecDepth 100000 in
set_option maxHeartbeats 2000000 in
theorem bmeet_ok (A : Option Addr) (ca : Nat) (p : List Int) (B : Option Addr) (cb : Nat) (q : List Int) (w : World) (ha : Ints w w.heap.size A p) (hb : Ints w w.heap.size B q) (hlp : p.length ≤ 1000000) (hlq : q.length ≤ 1000000) (hc : Kp.code p q = 0) :
    Calls Tryd.prog 40 #[.slice A p.length ca, .slice B q.length cb] w (PairRes (Kp.IsMeet p q) w) := by
  obtain ⟨hvp, hvq, hpq⟩ := Kp.code_zero hc
  have hM : Hid (Kp.IsMeet p q (Kp.ofF (Kp.mlab p q) p.length)) := Lib.hid (Kp.mlab_meet hvq hpq)
  have hmk := makeInts p.length hlp
  have hcnt : Hid (Kp.cnt0 q = Kp.cntL q) := Lib.hid (by unfold Kp.cnt0; rw [hvq]; rfl)
  have hcl := Kp.cntL_le q
  have hcp := Kp.cntL_le p
  have hVp := Lib.hid hvp
  have hVq := Lib.hid hvq
  have hL := Lib.hid hpq
  have hC := Lib.hid hc
  clear hc hvp hvq hpq
  go_enter Tryd.func40, Tryd.ntmps40
  go_wp2_with fail
  refine (bcheck_any A ca p B cb q _ ha hb hlp hlq).mono ?_
  rintro e w' ⟨rfl, rfl⟩
  rw [hC.out]
  go_wp2_with fail
  have I1 : MtInv w (w.alloc (.cells (zcells (List.replicate p.length 0)) 3)) w.heap.size (Kp.mlab p q) p.length 0 := ⟨by rw [Kp.fillZ_zero]; exact IBlk.new_ _ _, Nat.le_refl _, (Below.refl _ _).alloc (Nat.le_refl _) _⟩
  clear hmk
  refine (bcount_any B cb q _ (hb.at I1.bel) hlq).mono ?_
  rintro e w1 ⟨rfl, hB1⟩
  have I2 : MtInv w w1 w.heap.size (Kp.mlab p q) p.length 0 := ⟨I1.row.below hB1 I1.row.lt, I1.hg, I1.bel.trans (hB1.mono I1.bel.size)⟩
  clear I1 hB1
  rw [hcnt.out]
  obtain ⟨C, hCC⟩ : ∃ C, Hid (Kp.cntL q = C) := ⟨_, Lib.hid rfl⟩
  rw [hCC.out] at hcl
  rw [hCC.out]
  go_wp2_with fail
  go_loopw [23] (fun iv wr => ∃ k : Nat, k ≤ p.length ∧ iv = .int .i64 k ∧ MtInv w wr w.heap.size (Kp.mlab p q) p.length k) (fun iv _ => p.length - (intOf iv).toNat)
  case atStart => exact ⟨0, Nat.zero_le _, rfl, I2⟩
  case round =>
    obtain ⟨k, hk, rfl, I⟩ := hrel
    clear I2
    by_cases hlt : k < p.length
    · obtain ⟨b1, off1, x, rfl, hbb1, hc1, hx⟩ := (ha.below I.bel).at_ hlt
      obtain ⟨b2, off2, y, rfl, hbb2, hc2, hy⟩ := (hb.below I.bel).at_ (k := k) (by rw [← hL.out]; exact hlt)
      have hxb : 0 ≤ x ∧ x ≤ 1000000 := by
        have h1 := Kp.valid_lt hVp.out hlt
        have h2 : x = Kp.lab p k := hx.out.1
        omega
      have hyb : 0 ≤ y ∧ y ≤ 1000000 := by
        have h1 := Kp.valid_lt hVq.out (i := k) (by rw [← hL.out]; exact hlt)
        have h2 : y = Kp.lab q k := hy.out.1
        have := hCC.out
        omega
      obtain ⟨hm0, hm1, hm2, hm3⟩ := Kp.mul_bd hxb.1 hxb.2 hyb.1 hyb.2 (C := C) (by omega)
      have hH : Hid (Kp.mlab p q k = x * (C : Int) + y) := Lib.hid (by unfold Kp.mlab; rw [hCC.out, hx.out.1, hy.out.1]; rfl)
      obtain ⟨M, hM1⟩ : ∃ M, Hid (x * (C : Int) = M) := ⟨_, Lib.hid rfl⟩
      rw [hM1.out] at hm0 hm1 hm2 hm3
      obtain ⟨H, hH1⟩ : ∃ H, Hid (M + y = H) := ⟨_, Lib.hid rfl⟩
      have hw1 : IntKind.i64.wrap (x * (C : Int)) = M := by rw [hM1.out, IntKind.wrap_i64]; omega
      have hw2 : IntKind.i64.wrap (M + y) = H := by rw [← hH1.out, IntKind.wrap_i64]; omega
      have hw3 : wrap64 (x * (C : Int)) = M := by rw [hM1.out]; first | omega | (unfold wrap64; omega)
      have hw4 : wrap64 (M + y) = H := by rw [← hH1.out]; first | omega | (unfold wrap64; omega)
      have hcg := I.row.cell (k := k) (by rw [Kp.fillZ_length]; exact hlt)
      have hfg := I.row.frozen k
      have hlt2 : (k : Int) < (q.length : Int) := by have := hL.out; omega
      have hset := I.row.set_ k H
      rw [show H = Kp.mlab p q k by rw [hH.out, hM1.out, hH1.out], Kp.fillZ_set _ _ _ hlt, hH.out, hM1.out, hH1.out] at hset
      have hbel := I.bel.setCell (p := ⟨w.heap.size, k, none⟩) (Nat.le_refl _) (.int .i64 H)
      clear hm0 hm1 hm2 hm3
      go_wp2_with fail
      go_region
      go_wp2_with fail
      go_roundw
      case rel => exact ⟨k + 1, by omega, by go_num, ⟨hset.drew, I.hg, hbel.drew⟩⟩
      case measure => simp [intOf]; omega
    · obtain rfl : k = p.length := by omega
      go_wp2_with fail
      have hbd : ∀ i, i < p.length → 0 ≤ Kp.mlab p q i ∧ Kp.mlab p q i ≤ 1000001000000 := fun i hi => by
        have h1 := Kp.valid_lt hVp.out hi
        have h2 := Kp.valid_lt hVq.out (i := i) (by rw [← hL.out]; exact hi)
        have := hCC.out
        have h3 := Kp.mul_bd (C := Kp.cntL q) h1.1 (by omega) h2.1 (by omega) (by omega)
        unfold Kp.mlab
        omega
      have hI : Ints wr wr.heap.size (some ⟨w.heap.size, 0, none⟩) (Kp.fillZ (Kp.mlab p q) p.length p.length) := I.row.ints I.row.lt (fun x hx => by
        have := Kp.fillZ_bd _ _ _ 1000001000000 (by omega) hbd x hx
        omega)
      have hlen : (Kp.fillZ (Kp.mlab p q) p.length p.length).length = p.length := Kp.fillZ_length _ _ _
      have hof := of_any (some ⟨w.heap.size, 0, none⟩) p.length _ _ hI (by omega)
      rw [hlen, Kp.ofL_fillZ] at hof
      refine hof.mono ?_
      rintro e w3 ⟨A3, c3, rfl, hI3, hB3⟩
      go_wp2_with fail
      go_ret2
      exact ⟨_, A3, c3, hM.out, rfl, hI3, I.bel.trans (hB3.mono I.bel.size)⟩
end Go.Proofs.YtcicejmahlobhaaDoor
