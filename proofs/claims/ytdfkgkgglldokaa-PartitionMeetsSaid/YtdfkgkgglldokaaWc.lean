/- Walks: refusals of Refines and of the reference's Meet, Join and Refines; the reference's Refines. -/
import Derived.Test.YtdfkgkgglldokaaWb
namespace Go.Proofs.Ytdfkgkgglldokaa
open Go.RowKit Go.Maps
set_option linter.unusedVariables false

set_option maxRecDepth 100000 in
set_option maxHeartbeats 1000000 in
theorem rmeet_err (A : Option Addr) (ca : Nat) (p : List Int) (B : Option Addr) (cb : Nat) (q : List Int) (w : World) (ha : Ints w w.heap.size A p) (hb : Ints w w.heap.size B q) (hlp : p.length ≤ 1000000) (hlq : q.length ≤ 1000000) (hc : Kp.code p q ≠ 0) :
    Calls Try.prog 27 #[.slice A p.length ca, .slice B q.length cb] w (PairErr (Kp.code p q) w) := by
  obtain ⟨C, hC⟩ : ∃ C, Hid (Kp.code p q = C) := ⟨_, Lib.hid rfl⟩
  rw [hC.out] at hc
  rw [hC.out]
  have hc1 : (C != 0) = true := by simpa using hc
  clear hc
  go_enter Try.func27, Try.ntmps27
  go_wp2_with fail
  refine (rboth_any A ca p B cb q _ ha hb hlp hlq).mono ?_
  rintro e w' ⟨rfl, rfl⟩
  rw [hC.out]
  go_wp2_with fail
  go_ret2
  exact ⟨rfl, Below.refl _ _⟩

set_option maxRecDepth 100000 in
set_option maxHeartbeats 1000000 in
theorem rjoin_err (A : Option Addr) (ca : Nat) (p : List Int) (B : Option Addr) (cb : Nat) (q : List Int) (w : World) (ha : Ints w w.heap.size A p) (hb : Ints w w.heap.size B q) (hlp : p.length ≤ 1000000) (hlq : q.length ≤ 1000000) (hc : Kp.code p q ≠ 0) :
    Calls Try.prog 29 #[.slice A p.length ca, .slice B q.length cb] w (PairErr (Kp.code p q) w) := by
  obtain ⟨C, hC⟩ : ∃ C, Hid (Kp.code p q = C) := ⟨_, Lib.hid rfl⟩
  rw [hC.out] at hc
  rw [hC.out]
  have hc1 : (C != 0) = true := by simpa using hc
  clear hc
  go_enter Try.func29, Try.ntmps29
  go_wp2_with fail
  refine (rboth_any A ca p B cb q _ ha hb hlp hlq).mono ?_
  rintro e w' ⟨rfl, rfl⟩
  rw [hC.out]
  go_wp2_with fail
  go_ret2
  exact ⟨rfl, Below.refl _ _⟩

/-- what Refines hands back -/
def RefRes (b : Bool) (code : Int) (w : World) (e : Ending) (w' : World) : Prop :=
  e = .returned (.tuple #[.bool b, .int .i64 code]) ∧ Below w.heap.size w w'

set_option maxRecDepth 100000 in
set_option maxHeartbeats 1000000 in
theorem brefines_err (A : Option Addr) (ca : Nat) (p : List Int) (B : Option Addr) (cb : Nat) (q : List Int) (w : World) (ha : Ints w w.heap.size A p) (hb : Ints w w.heap.size B q) (hlp : p.length ≤ 1000000) (hlq : q.length ≤ 1000000) (hc : Kp.code p q ≠ 0) :
    Calls Try.prog 30 #[.slice A p.length ca, .slice B q.length cb] w (RefRes false (Kp.code p q) w) := by
  obtain ⟨C, hC⟩ : ∃ C, Hid (Kp.code p q = C) := ⟨_, Lib.hid rfl⟩
  rw [hC.out] at hc
  rw [hC.out]
  have hc1 : (C != 0) = true := by simpa using hc
  clear hc
  go_enter Try.func30, Try.ntmps30
  go_wp2_with fail
  refine (bcheck_any A ca p B cb q _ ha hb hlp hlq).mono ?_
  rintro e w' ⟨rfl, rfl⟩
  rw [hC.out]
  go_wp2_with fail
  go_ret2
  exact ⟨rfl, Below.refl _ _⟩

set_option maxRecDepth 100000 in
set_option maxHeartbeats 1000000 in
theorem rrefines_err (A : Option Addr) (ca : Nat) (p : List Int) (B : Option Addr) (cb : Nat) (q : List Int) (w : World) (ha : Ints w w.heap.size A p) (hb : Ints w w.heap.size B q) (hlp : p.length ≤ 1000000) (hlq : q.length ≤ 1000000) (hc : Kp.code p q ≠ 0) :
    Calls Try.prog 31 #[.slice A p.length ca, .slice B q.length cb] w (RefRes false (Kp.code p q) w) := by
  obtain ⟨C, hC⟩ : ∃ C, Hid (Kp.code p q = C) := ⟨_, Lib.hid rfl⟩
  rw [hC.out] at hc
  rw [hC.out]
  have hc1 : (C != 0) = true := by simpa using hc
  clear hc
  go_enter Try.func31, Try.ntmps31
  go_wp2_with fail
  refine (rboth_any A ca p B cb q _ ha hb hlp hlq).mono ?_
  rintro e w' ⟨rfl, rfl⟩
  rw [hC.out]
  go_wp2_with fail
  go_ret2
  exact ⟨rfl, Below.refl _ _⟩

/-- no fault among the first k elements, and those below j against k -/
def NoF (p q : List Int) (k j : Nat) : Prop := (∀ i l, i < k → l < i → Kp.lab p i = Kp.lab p l → Kp.lab q i = Kp.lab q l) ∧ ∀ l, l < j → Kp.lab p k = Kp.lab p l → Kp.lab q k = Kp.lab q l

set_option maxRecDepth 100000 in
set_option maxHeartbeats 2000000 in
theorem rrefines_ok (A : Option Addr) (ca : Nat) (p : List Int) (B : Option Addr) (cb : Nat) (q : List Int) (w : World) (ha : Ints w w.heap.size A p) (hb : Ints w w.heap.size B q) (hlp : p.length ≤ 1000000) (hlq : q.length ≤ 1000000) (hc : Kp.code p q = 0) :
    Calls Try.prog 31 #[.slice A p.length ca, .slice B q.length cb] w (RefRes (Kp.refB p q) 0 w) := by
  obtain ⟨hvp, hvq, hpq⟩ := Kp.code_zero hc
  have hL := Lib.hid hpq
  have hC := Lib.hid hc
  clear hc hvp hvq hpq
  go_enter Try.func31, Try.ntmps31
  go_wp2_with fail
  refine (rboth_any A ca p B cb q _ ha hb hlp hlq).mono ?_
  rintro e w' ⟨rfl, rfl⟩
  rw [hC.out]
  go_wp2_with fail
  go_loopw [7] (fun iv wr => ∃ k t : Nat, k ≤ p.length ∧ iv = .int .i64 k ∧ Hid (NoF p q k 0) ∧ wr = w.drewN t) (fun iv _ => p.length - (intOf iv).toNat)
  case atStart => exact ⟨0, 0, Nat.zero_le _, rfl, Lib.hid ⟨fun i l hi _ => absurd hi (Nat.not_lt_zero _), fun l hl => absurd hl (Nat.not_lt_zero _)⟩, rfl⟩
  case round =>
    obtain ⟨k, t, hk, rfl, hN, rfl⟩ := hrel
    by_cases hlt : k < p.length
    · obtain ⟨b1, off1, x, rfl, hbb1, hc1, hx⟩ := ha.at_ hlt
      obtain ⟨b2, off2, y, rfl, hbb2, hc2, hy⟩ := hb.at_ (k := k) (by rw [← hL.out]; exact hlt)
      have hxl : Hid (x = Kp.lab p k) := Lib.hid hx.out.1
      have hyl : Hid (y = Kp.lab q k) := Lib.hid hy.out.1
      have hkq : (k : Int) < (q.length : Int) := by have := hL.out; omega
      go_wp2_with fail
      go_loopw [8] (fun jv wr => ∃ j t : Nat, j ≤ k ∧ jv = .int .i64 j ∧ Hid (NoF p q k j) ∧ wr = w.drewN t) (fun jv _ => k - (intOf jv).toNat)
      case atStart => exact ⟨0, t, Nat.zero_le _, rfl, hN, rfl⟩
      case round =>
        clear hN
        obtain ⟨j, t, hj, rfl, hN, rfl⟩ := hrel
        by_cases hjk : j < k
        · obtain ⟨_, _, x2, hA, _, hc3, hx2⟩ := ha.at_ (k := j) (by omega)
          cases hA
          obtain ⟨_, _, y2, hA, _, hc4, hy2⟩ := hb.at_ (k := j) (by rw [← hL.out]; omega)
          cases hA
          have hxl2 : Hid (x2 = Kp.lab p j) := Lib.hid hx2.out.1
          have hyl2 : Hid (y2 = Kp.lab q j) := Lib.hid hy2.out.1
          have hjp : (j : Int) < (p.length : Int) := by omega
          have hjq : (j : Int) < (q.length : Int) := by omega
          by_cases hxx : x = x2
          · by_cases hyy : y = y2
            · have h1 : (x == x2) = true := by simpa using hxx
              have h2 : (y != y2) = false := by simpa using hyy
              have hN' : Hid (NoF p q k (j + 1)) := Lib.hid ⟨hN.out.1, fun l hl e => by
                by_cases el : l = j
                · rw [el, ← hyl.out, ← hyl2.out]; exact hyy
                · exact hN.out.2 l (by omega) e⟩
              clear hxx hyy
              go_wp2_with fail
              go_quiet (fail)
              go_wp2_with fail
              go_roundw
              case rel => exact ⟨j + 1, _, by omega, by go_num, hN', rfl⟩
              case measure => simp [intOf]; omega
            · have h1 : (x == x2) = true := by simpa using hxx
              have h2 : (y != y2) = true := by simpa using hyy
              have hR : Hid (Kp.refB p q = false) := Lib.hid (by
                cases hr : Kp.refB p q with
                | false => rfl
                | true => exact absurd (by rw [hyl.out, hyl2.out]; exact Kp.refB_true.1 hr k j hlt (by omega) (by rw [← hxl.out, ← hxl2.out]; exact hxx)) hyy)
              clear hxx hyy
              go_wp2_with fail
              go_quiet (fail)
              go_wp2_with fail
              go_ret2
              exact ⟨by rw [hR.out]; rfl, bDrew (bDrew (Below.refl _ _) _) _⟩
          · have h1 : (x == x2) = false := by simpa using hxx
            have hN' : Hid (NoF p q k (j + 1)) := Lib.hid ⟨hN.out.1, fun l hl e => by
              by_cases el : l = j
              · exact absurd (by rw [hxl.out, hxl2.out, ← el]; exact e) hxx
              · exact hN.out.2 l (by omega) e⟩
            clear hxx
            go_wp2_with fail
            go_quiet (fail)
            go_wp2_with fail
            go_roundw
            case rel => exact ⟨j + 1, _, by omega, by go_num, hN', rfl⟩
            case measure => simp [intOf]; omega
        · obtain rfl : j = k := by omega
          have hN' : Hid (NoF p q (j + 1) 0) := Lib.hid ⟨fun i l hi hl e => by
            by_cases ei : i = j
            · subst ei; exact hN.out.2 l hl e
            · exact hN.out.1 i l (by omega) hl e, fun l hl => absurd hl (Nat.not_lt_zero _)⟩
          go_wp2_with fail
          go_roundw
          case rel => exact ⟨j + 1, t, by omega, by go_num, hN', rfl⟩
          case measure => simp [intOf]; omega
    · obtain rfl : k = p.length := by omega
      have hR : Hid (Kp.refB p q = true) := Lib.hid (Kp.refB_true.2 fun i j hi hj e => by
        rcases Nat.lt_trichotomy i j with h | h | h
        · exact (hN.out.1 j i hj h e.symm).symm
        · rw [h]
        · exact hN.out.1 i j hi h e)
      go_wp2_with fail
      go_ret2
      exact ⟨by rw [hR.out]; rfl, bDrew (Below.refl _ _) t⟩
end Go.Proofs.Ytdfkgkgglldokaa
