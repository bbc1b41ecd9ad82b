/- Walks: Sizes, Count, Class and the reference's. -/
import Derived.Test.YtcicejmahlobhaaDoorW3
import Derived.Test.YtcicejmahlobhaaDoorSizes
import Derived.Deep.AppendLies
namespace Go.Proofs.YtcicejmahlobhaaDoor
open Go.RowKit Go.Maps
set_option linter.unusedVariables false

theorem OwInv.stored {w wr : World} {g n cap j : Nat} {zs : List Int} {x : Int} (h : OwInv w wr (.slice (some ⟨g, 0, none⟩) n cap) zs) (hn : n = zs.length) : OwInv w (wr.setCell ⟨g, j, none⟩ (.int .i64 x)) (.slice (some ⟨g, 0, none⟩) n cap) (zs.set j x) where
  own := by
    subst hn
    have := (h.own.stored j (.int .i64 x)).1
    rw [List.length_set]
    have e : zvals (zs.set j x) = (zvals zs).set j (.int .i64 x) := by simp [zvals, List.map_set]
    rw [e]; exact this
  bel := h.bel.setCell (p := ⟨g, j, none⟩) (h.own.lt g rfl).1 _
theorem OwInv.cellAt {w wr : World} {g n cap : Nat} {zs : List Int} (h : OwInv w wr (.slice (some ⟨g, 0, none⟩) n cap) zs) (hn : n = zs.length) (j : Nat) (hj : j < zs.length) : wr.cell? ⟨g, j, none⟩ = some (.int .i64 (zs.getD j 0)) := by
  subst hn
  rw [h.own.cellAt j (by omega)]
  simp [zvals, List.getD_eq_getElem?_getD, hj]
theorem OwInv.frozenAt {w wr : World} {g n cap : Nat} {zs : List Int} (h : OwInv w wr (.slice (some ⟨g, 0, none⟩) n cap) zs) (hn : n = zs.length) (j : Nat) : wr.frozen? ⟨g, j, none⟩ = false := by
  subst hn
  exact h.own.frozenAt j
theorem OwInv.form {w wr : World} {v : Value} {zs : List Int} (h : OwInv w wr v zs) (hn : 0 < zs.length) : ∃ g cap, v = .slice (some ⟨g, 0, none⟩) zs.length cap := by
  obtain ⟨g, cap, hv, _⟩ := h.own.form hn
  exact ⟨g, cap, hv⟩
theorem wide {zs : List Int} (h : ∀ x ∈ zs, 0 ≤ x ∧ x ≤ 1000000) : ∀ x ∈ zs, -9223372036854775808 ≤ x ∧ x ≤ 9223372036854775807 := fun x hx => by have := h x hx; omega

set_option maxRecDepth 100000 in
set_option maxHeartbeats 2000000 in
theorem bsizes_any (A : Option Addr) (c : Nat) (zs : List Int) (w : World) (h : Ints w w.heap.size A zs) (hl : zs.length ≤ 1000000) :
    Calls Tryd.prog 67 #[.slice A zs.length c] w (IntsRes (Kp.szL zs) w) := by
  obtain ⟨i0, hi, hz0, hz1, hz2⟩ := info_parts infoInt
  cases hv : Kp.vB zs with
  | false =>
    have hS : Hid (Kp.szL zs = []) := Lib.hid (by unfold Kp.szL; rw [hv]; rfl)
    have hV := Lib.hid hv
    clear hv
    go_enter Tryd.func67, Tryd.ntmps67
    go_wp2_with fail
    refine (bvalid_any A c zs _ h hl).mono ?_
    rintro e w' ⟨rfl, rfl⟩
    rw [hV.out]
    go_wp2_with fail
    go_ret
    exact ⟨none, 0, by rw [hS.out]; rfl, by rw [hS.out]; exact Ints.nil _ _ _, Below.refl _ _⟩
  | true =>
    obtain ⟨f, hf⟩ : ∃ f, Hid (Kp.lab zs = f) := ⟨_, Lib.hid rfl⟩
    have hval : Hid (∀ i, i < zs.length → f i = (Kp.cls f i : Int)) := Lib.hid (by rw [← hf.out]; exact Kp.vB_iff.1 hv)
    have hS : Hid (Kp.szL zs = Kp.szM f (Kp.rank f zs.length) zs.length) := Lib.hid (by unfold Kp.szL; rw [hv, if_pos rfl]; unfold Kp.cntL; rw [hf.out])
    have hV := Lib.hid hv
    clear hv
    go_enter Tryd.func67, Tryd.ntmps67
    go_wp2_with fail
    refine (bvalid_any A c zs _ h hl).mono ?_
    rintro e w' ⟨rfl, rfl⟩
    rw [hV.out]
    go_wp2_with fail
    go_loopw [3, 11] (fun v iv wr => ∃ k : Nat, k ≤ zs.length ∧ iv = .int .i64 k ∧ OwInv w wr v (Kp.szM f (Kp.rank f k) k)) (fun _ iv _ => zs.length - (intOf iv).toNat)
    case atStart => exact ⟨0, Nat.zero_le _, rfl, OwInv.nil w⟩
    case round =>
      obtain ⟨k, hk, rfl, I⟩ := hrel
      have hrk := Kp.rank_le f k
      by_cases hlt : k < zs.length
      · obtain ⟨b, off, x, rfl, hbb, hc, hx⟩ := (h.below I.bel).at_ hlt
        have hxl : Hid (x = f k) := Lib.hid (by rw [← hf.out]; exact hx.out.1)
        have hlen : Hid ((Kp.szM f (Kp.rank f k) k).length = Kp.rank f k) := Lib.hid (Kp.szM_length _ _ _)
        cases hn : Kp.newB f k with
        | true =>
          have hxr : x = ((Kp.rank f k : Nat) : Int) := by rw [hxl.out, hval.out k hlt, Kp.cls_new hn]
          have hg : Hid (Kp.szM f (Kp.rank f k + 1) k = Kp.szM f (Kp.rank f k) k ++ [0]) := Lib.hid (Kp.szM_grow fun i hi => hval.out i (by omega))
          have hr1 : Hid (Kp.rank f (k + 1) = Kp.rank f k + 1) := Lib.hid (Kp.rank_new hn)
          have ho := I.own
          rw [hlen.out] at ho
          obtain ⟨r, hr⟩ : ∃ r, Hid (Kp.rank f k = r) := ⟨_, Lib.hid rfl⟩
          rw [hr.out] at hxr hrk ho
          subst hxr
          obtain ⟨A', c', rfl⟩ := own_slice ho
          clear hn
          go_wp2_with (at_builtin; refine wpList_append_own _ rfl _ _ 33 rfl w.heap.size 3 i0 (.int .i64 0) 1 8 Tryd.underlying33 hi hz0 hz1 hz2 rfl (by decide) _ _ _ rfl (ho.alloc _) ⟨wr.heap.size, 0, none⟩ 1 1 [.int .i64 0] rfl rfl ?c1 ?c2 ?c3 ?c4 ?c5 ?_)
          case c1 => exact cell_one_new _ _ _
          case c2 => intro u hu; simp at hu; subst hu; rfl
          case c3 => unfold maxLen; omega
          case c4 => omega
          case c5 => have := I.bel.size; simp; omega
          intro v' w3 hown' hgrow _
          have I3 := OwInv.grown I (by rw [hlen.out, hr.out]; exact hown') hgrow
          rw [← hg.out, hr.out] at I3
          have hl3 := Kp.szM_length f (r + 1) k
          obtain ⟨g, cap, rfl⟩ := I3.form (by omega)
          have hc3 := I3.cellAt rfl r (by omega)
          have hf3 := I3.frozenAt rfl r
          rw [Kp.szM_get _ _ _ _ (Nat.lt_succ_self r)] at hc3
          have hcv := Kp.cntv_le f (r : Int) k
          have I4 := I3.stored (j := r) (x := (Kp.cntv f (r : Int) k : Int) + 1) rfl
          rw [Kp.szM_set (Nat.lt_succ_self r) (by rw [← hxl.out])] at I4
          rw [hl3] at I4
          rw [hl3]
          clear hown' hgrow I3 hl3
          go_wp2_with fail
          go_roundw
          case rel => exact ⟨k + 1, by omega, by go_num, by rw [hr1.out, hr.out]; exact I4⟩
          case measure => simp [intOf]; omega
        | false =>
          have hlt2 : Kp.cls f k < Kp.rank f k := Kp.cls_old hn
          have hxr : x = ((Kp.cls f k : Nat) : Int) := by rw [hxl.out, hval.out k hlt]
          have hr1 : Hid (Kp.rank f (k + 1) = Kp.rank f k) := Lib.hid (Kp.rank_old hn)
          obtain ⟨r, hr⟩ : ∃ r, Hid (Kp.rank f k = r) := ⟨_, Lib.hid rfl⟩
          obtain ⟨d, hd⟩ : ∃ d, Hid (Kp.cls f k = d) := ⟨_, Lib.hid rfl⟩
          rw [hr.out] at hlt2 I hrk
          rw [hd.out] at hxr hlt2
          subst hxr
          have hl3 := Kp.szM_length f r k
          obtain ⟨g, cap, rfl⟩ := I.form (by omega)
          have hc3 := I.cellAt rfl d (by omega)
          have hf3 := I.frozenAt rfl d
          rw [Kp.szM_get _ _ _ _ hlt2] at hc3
          have hcv := Kp.cntv_le f (d : Int) k
          have I4 := I.stored (j := d) (x := (Kp.cntv f (d : Int) k : Int) + 1) rfl
          rw [Kp.szM_set hlt2 (by rw [← hxl.out])] at I4
          rw [hl3] at I4
          rw [hl3]
          have hne1 : ((d : Int) == (r : Int)) = false := by simp; omega
          have hne2 : (d == r) = false := by simp; omega
          have hdr : (d : Int) < (r : Int) := by omega
          clear hn I hl3
          go_wp2_with fail
          go_roundw
          case rel => exact ⟨k + 1, by omega, by go_num, by rw [hr1.out, hr.out]; exact I4⟩
          case measure => simp [intOf]; omega
      · obtain rfl : k = zs.length := by omega
        rw [← hS.out] at I
        obtain ⟨A', c', rfl, hI, hB⟩ := I.res (wide (Kp.szL_bd zs hl))
        go_wp2_with fail
        go_ret
        exact ⟨A', c', rfl, hI, hB⟩

set_option maxRecDepth 100000 in
set_option maxHeartbeats 400000 in
theorem bcount_any (A : Option Addr) (c : Nat) (zs : List Int) (w : World) (h : Ints w w.heap.size A zs) (hl : zs.length ≤ 1000000) :
    Calls Tryd.prog 43 #[.slice A zs.length c] w fun e w' => e = .returned (.int .i64 (Kp.cnt0 zs : Nat)) ∧ Below w.heap.size w w' := by
  go_enter Tryd.func43, Tryd.ntmps43
  go_wp2_with fail
  refine (bsizes_any A c zs _ h hl).mono ?_
  rintro e w' ⟨A', c', rfl, hI, hB⟩
  go_wp2_with fail
  go_ret
  exact ⟨ret_int (by rw [Kp.szL_length]), hB⟩

set_option maxRecDepth 100000 in
set_option maxHeartbeats 400000 in
theorem rcount_any (A : Option Addr) (c : Nat) (zs : List Int) (w : World) (h : Ints w w.heap.size A zs) (hl : zs.length ≤ 1000000) :
    Calls Tryd.prog 20 #[.slice A zs.length c] w fun e w' => e = .returned (.int .i64 (Kp.cnt0 zs : Nat)) ∧ w = w' := by
  cases hv : Kp.vB zs with
  | false =>
    have hS : Hid (Kp.cnt0 zs = 0) := Lib.hid (by unfold Kp.cnt0; rw [hv]; rfl)
    have hV := Lib.hid hv
    clear hv
    go_enter Tryd.func20, Tryd.ntmps20
    go_wp2_with fail
    refine (rvalid_any A c zs _ h hl).mono ?_
    rintro e w' ⟨rfl, rfl⟩
    rw [hV.out]
    go_wp2_with fail
    go_ret
    exact ⟨ret_int (by rw [hS.out]; rfl), rfl⟩
  | true =>
    obtain ⟨f, hf⟩ : ∃ f, Hid (Kp.lab zs = f) := ⟨_, Lib.hid rfl⟩
    have hval : Hid (∀ i, i < zs.length → f i = (Kp.cls f i : Int)) := Lib.hid (by rw [← hf.out]; exact Kp.vB_iff.1 hv)
    have hS : Hid (Kp.cnt0 zs = Kp.rank f zs.length) := Lib.hid (by unfold Kp.cnt0; rw [hv, if_pos rfl]; unfold Kp.cntL; rw [hf.out])
    have hV := Lib.hid hv
    clear hv
    go_enter Tryd.func20, Tryd.ntmps20
    go_wp2_with fail
    refine (rvalid_any A c zs _ h hl).mono ?_
    rintro e w' ⟨rfl, rfl⟩
    rw [hV.out]
    go_wp2_with fail
    go_loop [3, 4] (fun nv iv => ∃ k r : Nat, k ≤ zs.length ∧ iv = .int .i64 k ∧ nv = .int .i64 r ∧ Hid (r = Kp.rank f k)) (fun _ iv => zs.length - (intOf iv).toNat)
    case atStart => exact ⟨0, 0, Nat.zero_le _, rfl, rfl, Lib.hid rfl⟩
    case round =>
      obtain ⟨k, r, hk, rfl, rfl, hr⟩ := hrel
      have hrk : r ≤ k := by rw [hr.out]; exact Kp.rank_le f k
      by_cases hlt : k < zs.length
      · obtain ⟨b, off, x, rfl, hbb, hc, hx⟩ := h.at_ hlt
        have hxl : Hid (x = (Kp.cls f k : Int)) := Lib.hid (by rw [← hval.out k hlt, ← hf.out]; exact hx.out.1)
        cases hn : Kp.newB f k with
        | true =>
          have hxr : x = (r : Int) := by rw [hxl.out, hr.out, Kp.cls_new hn]
          have hr1 : Hid (r + 1 = Kp.rank f (k + 1)) := Lib.hid (by rw [Kp.rank_new hn, hr.out])
          subst hxr
          clear hn
          go_wp2_with fail
          go_round
          case rel => exact ⟨k + 1, r + 1, by omega, by go_num, by go_num, hr1⟩
          case measure => simp [intOf]; omega
        | false =>
          have hxr : x < (r : Int) := by rw [hxl.out, hr.out]; have := Kp.cls_old hn; omega
          have hr1 : Hid (r = Kp.rank f (k + 1)) := Lib.hid (by rw [Kp.rank_old hn]; exact hr.out)
          have hne : (x == (r : Int)) = false := by simp; omega
          clear hn
          go_wp2_with fail
          go_round
          case rel => exact ⟨k + 1, r, by omega, by go_num, rfl, hr1⟩
          case measure => simp [intOf]; omega
      · obtain rfl : k = zs.length := by omega
        have hR : Hid (r = Kp.cnt0 zs) := Lib.hid (by rw [hS.out, hr.out])
        go_wp2_with fail
        go_ret
        exact ⟨ret_int (by rw [hR.out]), rfl⟩

set_option maxRecDepth 100000 in
set_option maxHeartbeats 1000000 in
theorem bclass_any (A : Option Addr) (c : Nat) (zs : List Int) (m : Int) (w : World) (h : Ints w w.heap.size A zs) (hl : zs.length ≤ 1000000) :
    Calls Tryd.prog 48 #[.slice A zs.length c, .int .i64 m] w (IntsRes (Kp.clL zs m) w) := by
  obtain ⟨i0, hi, hz0, hz1, hz2⟩ := info_parts infoInt
  cases hv : Kp.vB zs with
  | false =>
    have hS : Hid (Kp.clL zs m = []) := Lib.hid (by unfold Kp.clL; rw [hv]; rfl)
    have hV := Lib.hid hv
    clear hv
    go_enter Tryd.func48, Tryd.ntmps48
    go_wp2_with fail
    refine (bvalid_any A c zs _ h hl).mono ?_
    rintro e w' ⟨rfl, rfl⟩
    rw [hV.out]
    go_wp2_with fail
    go_ret
    exact ⟨none, 0, by rw [hS.out]; rfl, by rw [hS.out]; exact Ints.nil _ _ _, Below.refl _ _⟩
  | true =>
    obtain ⟨f, hf⟩ : ∃ f, Hid (Kp.lab zs = f) := ⟨_, Lib.hid rfl⟩
    have hS : Hid (Kp.clL zs m = Kp.clF f m zs.length) := Lib.hid (by unfold Kp.clL; rw [hv, if_pos rfl, hf.out])
    have hV := Lib.hid hv
    clear hv
    go_enter Tryd.func48, Tryd.ntmps48
    go_wp2_with fail
    refine (bvalid_any A c zs _ h hl).mono ?_
    rintro e w' ⟨rfl, rfl⟩
    rw [hV.out]
    go_wp2_with fail
    go_loopw [5, 13] (fun v iv wr => ∃ k : Nat, k ≤ zs.length ∧ iv = .int .i64 k ∧ OwInv w wr v (Kp.clF f m k)) (fun _ iv _ => zs.length - (intOf iv).toNat)
    case atStart => exact ⟨0, Nat.zero_le _, rfl, OwInv.nil w⟩
    case round =>
      obtain ⟨k, hk, rfl, I⟩ := hrel
      have hcl : (Kp.clF f m k).length ≤ k := by rw [Kp.clF_length]; exact Kp.cntv_le f m k
      by_cases hlt : k < zs.length
      · obtain ⟨b, off, x, rfl, hbb, hc, hx⟩ := (h.below I.bel).at_ hlt
        have hxl : Hid (x = f k) := Lib.hid (by rw [← hf.out]; exact hx.out.1)
        by_cases hxm : x = m
        · have hs : Hid (Kp.clF f m (k + 1) = Kp.clF f m k ++ [(k : Int)]) := Lib.hid (Kp.clF_hit (by rw [← hxl.out]; exact hxm))
          subst hxm
          go_wp2_with (at_builtin; refine wpList_append_own _ rfl _ _ 33 rfl w.heap.size 3 i0 (.int .i64 0) 1 8 Tryd.underlying33 hi hz0 hz1 hz2 rfl (by decide) _ _ _ rfl (I.own.alloc _) ⟨wr.heap.size, 0, none⟩ 1 1 [.int .i64 (k : Int)] rfl rfl ?c1 ?c2 ?c3 ?c4 ?c5 ?_)
          case c1 => exact cell_one_new _ _ _
          case c2 => intro u hu; simp at hu; subst hu; rfl
          case c3 => unfold maxLen; omega
          case c4 => omega
          case c5 => have := I.bel.size; simp; omega
          intro v' w3 hown' hgrow _
          have I3 := OwInv.grown I hown' hgrow
          rw [← hs.out] at I3
          go_wp2_with fail
          go_roundw
          case rel => exact ⟨k + 1, by omega, by go_num, I3⟩
          case measure => simp [intOf]; omega
        · have hs : Hid (Kp.clF f m (k + 1) = Kp.clF f m k) := Lib.hid (Kp.clF_miss (by rw [← hxl.out]; exact hxm))
          have hne : (x == m) = false := by simpa using hxm
          rw [← hs.out] at I
          clear hxm hcl
          go_wp2_with fail
          go_roundw
          case rel => exact ⟨k + 1, by omega, by go_num, I⟩
          case measure => simp [intOf]; omega
      · obtain rfl : k = zs.length := by omega
        rw [← hS.out] at I
        obtain ⟨A', c', rfl, hI, hB⟩ := I.res (wide (Kp.clL_bd zs m hl))
        go_wp2_with fail
        go_ret
        exact ⟨A', c', rfl, hI, hB⟩

end Go.Proofs.YtcicejmahlobhaaDoor
