/- Walks: checkPair and the reference's both; Pairs, Largest and the reference's. -/
import Derived.Test.YtcicejmahlobhaaDoorW4
namespace Go.Proofs.YtcicejmahlobhaaDoor
open Go.RowKit Go.Maps
set_option linter.unusedVariables false

namespace Kp
/-- the code of two lists -/
def code (p q : List Int) : Int := if vB p && vB q then (if p.length = q.length then 0 else 2) else 1
theorem code_p {p q : List Int} (h : vB p = false) : code p q = 1 := by unfold code; rw [h]; rfl
theorem code_q {p q : List Int} (h : vB q = false) : code p q = 1 := by unfold code; rw [h]; simp
theorem code_len {p q : List Int} (h1 : vB p = true) (h2 : vB q = true) (h : p.length ≠ q.length) : code p q = 2 := by unfold code; rw [h1, h2]; simp [h]
theorem code_ok {p q : List Int} (h1 : vB p = true) (h2 : vB q = true) (h : p.length = q.length) : code p q = 0 := by unfold code; rw [h1, h2]; simp [h]
theorem code_zero {p q : List Int} (h : code p q = 0) : vB p = true ∧ vB q = true ∧ p.length = q.length := by
  cases h1 : vB p with
  | false => rw [code_p h1] at h; exact absurd h (by decide)
  | true =>
    cases h2 : vB q with
    | false => rw [code_q h2] at h; exact absurd h (by decide)
    | true =>
      refine ⟨rfl, rfl, ?_⟩
      by_cases e : p.length = q.length
      · exact e
      · rw [code_len h1 h2 e] at h; exact absurd h (by decide)
end Kp

set_option maxRecDepth 100000 in
set_option maxHeartbeats 400000 in
theorem bcheck_any (A : Option Addr) (ca : Nat) (p : List Int) (B : Option Addr) (cb : Nat) (q : List Int) (w : World) (ha : Ints w w.heap.size A p) (hb : Ints w w.heap.size B q) (hlp : p.length ≤ 1000000) (hlq : q.length ≤ 1000000) :
    Calls Tryd.prog 65 #[.slice A p.length ca, .slice B q.length cb] w fun e w' => e = .returned (.int .i64 (Kp.code p q)) ∧ w = w' := by
  cases hvp : Kp.vB p with
  | false =>
    have hR : Hid (Kp.code p q = 1) := Lib.hid (Kp.code_p hvp)
    have hV := Lib.hid hvp
    clear hvp
    go_enter Tryd.func65, Tryd.ntmps65
    go_wp2_with fail
    refine (bvalid_any A ca p _ ha hlp).mono ?_
    rintro e w' ⟨rfl, rfl⟩
    rw [hV.out]
    go_wp2_with fail
    go_ret
    exact ⟨ret_int hR.out.symm, rfl⟩
  | true =>
    cases hvq : Kp.vB q with
    | false =>
      have hR : Hid (Kp.code p q = 1) := Lib.hid (Kp.code_q hvq)
      have hV := Lib.hid hvp
      have hV2 := Lib.hid hvq
      clear hvp hvq
      go_enter Tryd.func65, Tryd.ntmps65
      go_wp2_with fail
      refine (bvalid_any A ca p _ ha hlp).mono ?_
      rintro e w' ⟨rfl, rfl⟩
      rw [hV.out]
      go_wp2_with fail
      refine (bvalid_any B cb q _ hb hlq).mono ?_
      rintro e w' ⟨rfl, rfl⟩
      rw [hV2.out]
      go_wp2_with fail
      go_ret
      exact ⟨ret_int hR.out.symm, rfl⟩
    | true =>
      have hV := Lib.hid hvp
      have hV2 := Lib.hid hvq
      by_cases hl : p.length = q.length
      · have hR : Hid (Kp.code p q = 0) := Lib.hid (Kp.code_ok hvp hvq hl)
        have hl1 : ((p.length : Int) != (q.length : Int)) = false := by simp; omega
        clear hvp hvq hl
        go_enter Tryd.func65, Tryd.ntmps65
        go_wp2_with fail
        refine (bvalid_any A ca p _ ha hlp).mono ?_
        rintro e w' ⟨rfl, rfl⟩
        rw [hV.out]
        go_wp2_with fail
        refine (bvalid_any B cb q _ hb hlq).mono ?_
        rintro e w' ⟨rfl, rfl⟩
        rw [hV2.out]
        go_wp2_with fail
        go_ret
        exact ⟨ret_int hR.out.symm, rfl⟩
      · have hR : Hid (Kp.code p q = 2) := Lib.hid (Kp.code_len hvp hvq hl)
        have hl1 : ((p.length : Int) != (q.length : Int)) = true := by simp; omega
        clear hvp hvq hl
        go_enter Tryd.func65, Tryd.ntmps65
        go_wp2_with fail
        refine (bvalid_any A ca p _ ha hlp).mono ?_
        rintro e w' ⟨rfl, rfl⟩
        rw [hV.out]
        go_wp2_with fail
        refine (bvalid_any B cb q _ hb hlq).mono ?_
        rintro e w' ⟨rfl, rfl⟩
        rw [hV2.out]
        go_wp2_with fail
        go_ret
        exact ⟨ret_int hR.out.symm, rfl⟩

namespace Kp
theorem szL_map (zs : List Int) : ∃ S : List Nat, szL zs = S.map (fun (x : Nat) => (x : Int)) ∧ (∀ x ∈ S, x ≤ zs.length) ∧ S.length = cnt0 zs ∧ S.sum ≤ zs.length ∧ e2 S 0 = prL zs := by
  unfold szL cnt0 prL
  cases hv : vB zs with
  | true =>
    have h := e2_pairs (f := lab zs) (m := cntL zs) (n := zs.length) (fun i hi => valid_lt hv hi)
    refine ⟨szN (lab zs) (cntL zs) zs.length, by rw [if_pos rfl, szM_szN], ?_, by rw [if_pos rfl, szN_length], by rw [h.2]; exact Nat.le_refl _, by rw [if_pos rfl, h.1]⟩
    intro x hx
    obtain ⟨c, _, rfl⟩ := List.mem_map.1 hx
    exact cntv_le _ _ _
  | false => exact ⟨[], rfl, by simp, rfl, by simp, rfl⟩
theorem map_get (S : List Nat) (k : Nat) (hk : k < S.length) : (S.map (fun (x : Nat) => (x : Int))).getD k 0 = ((S.getD k 0 : Nat) : Int) := by
  rw [List.getD_eq_getElem?_getD, List.getElem?_map, List.getElem?_eq_getElem hk, List.getD_eq_getElem?_getD, List.getElem?_eq_getElem hk]; rfl
theorem take_get (S : List Nat) (k : Nat) (hk : k < S.length) : S.take (k + 1) = S.take k ++ [S.getD k 0] := by
  rw [List.take_succ_eq_append_getElem hk, List.getD_eq_getElem?_getD, List.getElem?_eq_getElem hk]; rfl
theorem sum_take_le (S : List Nat) (k : Nat) : (S.take k).sum ≤ S.sum := by
  have h : (S.take k).sum + (S.drop k).sum = S.sum := by rw [← List.sum_append, List.take_append_drop]
  omega
theorem e2_le (S : List Nat) (b N : Nat) (h : b + S.sum ≤ N) : e2 S b ≤ N * S.sum := by
  induction S generalizing b with
  | nil => simp [e2]
  | cons x S ih =>
    simp only [List.sum_cons] at h
    have h1 := ih (b + x) (by omega)
    have h2 : b * x ≤ N * x := Nat.mul_le_mul_right _ (by omega)
    simp only [e2, List.sum_cons, Nat.mul_add]
    omega
theorem mxL_le (S : List Nat) (N : Nat) (h : ∀ x ∈ S, x ≤ N) : mxL S ≤ N := by
  unfold mxL
  have : ∀ a, a ≤ N → S.foldl max a ≤ N := by
    induction S with
    | nil => intro a ha; exact ha
    | cons x S ih =>
      intro a ha
      exact ih (fun y hy => h y (by simp [hy])) (max a x) (by have := h x (by simp); omega)
  exact this 0 (Nat.zero_le _)
/-- the greatest size -/
def lgL (zs : List Int) : Nat := mxL ((szL zs).map Int.toNat)
theorem lgL_eq {zs : List Int} {S : List Nat} (h : szL zs = S.map (fun (x : Nat) => (x : Int))) : lgL zs = mxL S := by
  unfold lgL
  rw [h, List.map_map]
  congr 1
  exact (List.map_congr_left (fun x _ => by simp)).trans (List.map_id S)
end Kp

end Go.Proofs.YtcicejmahlobhaaDoor
