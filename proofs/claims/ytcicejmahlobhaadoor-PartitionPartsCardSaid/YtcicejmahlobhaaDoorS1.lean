/- Walks: the reference's SetOK, Has and split; checkSet. -/
import Derived.Test.YtcicejmahlobhaaDoorBW2
import Derived.Test.YtcicejmahlobhaaDoorBWk
import Derived.Test.YtcicejmahlobhaaDoorW4
import Derived.Test.YtcicejmahlobhaaDoorSm
namespace Go.Proofs.YtcicejmahlobhaaDoor
open Go.RowKit Bs
set_option linter.unusedVariables false

set_option maxRecDepth 100000 in
set_option maxHeartbeats 400000 in
theorem setok_any (size : Int) (A : Option Addr) (c : Nat) (ws : List Nat) (w : World) (h : Words w w.heap.size A ws) (hl : ws.length ≤ 140737488351232) :
    Calls Tryd.prog 69 #[setV size A ws.length c] w fun e w' => e = .returned (.bool (Kb.validB size ws)) ∧ Below w.heap.size w w' := by
  unfold setV
  by_cases h0 : 0 ≤ size
  · by_cases h1 : size ≤ 4096
    · have hd1 : decide (size < 0) = false := by simp; omega
      have hd2 : decide ((4096 : Int) < size) = false := by simp; omega
      by_cases hu : size % 64 = 0
      · have hm : size.tmod 64 = 0 := by rw [Int.tmod_eq_emod_of_nonneg h0]; exact hu
        have hu1 : (size.tmod 64 != 0) = false := by simp [hm]
        have hu2 : (size % 64 != 0) = false := by simp [hu]
        by_cases he : ws.length = Kb.nw size.toNat
        · have he1 : ((ws.length : Int) != size / 64) = false := by rw [he]; unfold Kb.nw; simp; omega
          have hv : Hid (Kb.validB size ws = true) := Lib.hid (valid_full h.lt h0 h1 he hu)
          have hE := Lib.hid he
          have hU := Lib.hid hu
          clear he hu
          go_enter Tryd.func69, Tryd.ntmps69
          go_wp2_with fail
          go_quiet (fail)
          go_wp2_with fail
          go_ret
          exact ⟨ret_bool hv.out.symm, bBox _ _ _⟩
        · have he1 : ((ws.length : Int) != size / 64) = true := by unfold Kb.nw at he; simp; omega
          have hv : Hid (Kb.validB size ws = false) := Lib.hid (valid_len h0 he)
          have hE := Lib.hid he
          have hU := Lib.hid hu
          clear he hu
          go_enter Tryd.func69, Tryd.ntmps69
          go_wp2_with fail
          go_ret
          exact ⟨ret_bool hv.out.symm, bBox _ _ 0⟩
      · have hm : size.tmod 64 ≠ 0 := by rw [Int.tmod_eq_emod_of_nonneg h0]; exact hu
        have hu1 : (size.tmod 64 != 0) = true := by simp [hm]
        have hu2 : (size % 64 != 0) = true := by simp [hu]
        by_cases he : ws.length = Kb.nw size.toNat
        · have he1 : ((ws.length : Int) != size / 64 + 1) = false := by rw [he]; unfold Kb.nw; simp; omega
          have hn : 0 < ws.length := by rw [he]; unfold Kb.nw; omega
          obtain ⟨b, off, x, rfl, hb, hc, hx⟩ := h.at_ (k := ws.length - 1) (by omega)
          have hv : Hid (((x : Int) / 2 ^ (size % 64).toNat == 0) = Kb.validB size ws) := Lib.hid (valid_last h.lt h0 h1 he hu x hx.out.1)
          have hq : size / 64 = (ws.length : Int) - 1 := by rw [he]; unfold Kb.nw; omega
          have hq1 : (size / 64 + 1 - 1).toNat = ws.length - 1 := by omega
          have hE := Lib.hid he
          have hU := Lib.hid hu
          clear he hu
          cases hvb : Kb.validB size ws with
          | true =>
            rw [hvb] at hv
            have hv2 : ((x : Int) / 2 ^ (size % 64).toNat != 0) = false := by simp [bne, hv.out]
            go_enter Tryd.func69, Tryd.ntmps69
            go_wp2_with fail
            go_quiet (fail)
            go_wp2_with fail
            go_ret
            exact ⟨rfl, bBox _ _ _⟩
          | false =>
            rw [hvb] at hv
            have hv2 : ((x : Int) / 2 ^ (size % 64).toNat != 0) = true := by simp only [bne, hv.out]; rfl
            go_enter Tryd.func69, Tryd.ntmps69
            go_wp2_with fail
            go_quiet (fail)
            go_wp2_with fail
            go_ret
            exact ⟨rfl, bBox _ _ _⟩
        · have he1 : ((ws.length : Int) != size / 64 + 1) = true := by unfold Kb.nw at he; simp; omega
          have hv : Hid (Kb.validB size ws = false) := Lib.hid (valid_len h0 he)
          have hE := Lib.hid he
          have hU := Lib.hid hu
          clear he hu
          go_enter Tryd.func69, Tryd.ntmps69
          go_wp2_with fail
          go_ret
          exact ⟨ret_bool hv.out.symm, bBox _ _ 0⟩
    · have hv : Hid (Kb.validB size ws = false) := Lib.hid (valid_size (fun h => h1 h.2))
      go_enter Tryd.func69, Tryd.ntmps69
      go_wp2_with fail
      go_ret
      exact ⟨ret_bool hv.out.symm, bBox _ _ 0⟩
  · have hv : Hid (Kb.validB size ws = false) := Lib.hid (valid_size (fun h => h0 h.1))
    go_enter Tryd.func69, Tryd.ntmps69
    go_wp2_with fail
    go_ret
    exact ⟨ret_bool hv.out.symm, bBox _ _ 0⟩

/-- the code of a list and a set -/
def scode (p : List Int) (size : Int) (ws : List Nat) : Int := if Kp.vB p && Kb.validB size ws then (if size = (p.length : Int) then 0 else 2) else 1
theorem scode_p {p : List Int} {size : Int} {ws : List Nat} (h : Kp.vB p = false) : scode p size ws = 1 := by unfold scode; rw [h]; rfl
theorem scode_q {p : List Int} {size : Int} {ws : List Nat} (h : Kb.validB size ws = false) : scode p size ws = 1 := by unfold scode; rw [h]; simp
theorem scode_len {p : List Int} {size : Int} {ws : List Nat} (h1 : Kp.vB p = true) (h2 : Kb.validB size ws = true) (h : size ≠ (p.length : Int)) : scode p size ws = 2 := by unfold scode; rw [h1, h2]; simp [h]
theorem scode_ok {p : List Int} {size : Int} {ws : List Nat} (h1 : Kp.vB p = true) (h2 : Kb.validB size ws = true) (h : size = (p.length : Int)) : scode p size ws = 0 := by unfold scode; rw [h1, h2]; simp [h]
theorem scode_zero {p : List Int} {size : Int} {ws : List Nat} (h : scode p size ws = 0) : Kp.vB p = true ∧ Kb.validB size ws = true ∧ size = (p.length : Int) := by
  cases h1 : Kp.vB p with
  | false => rw [scode_p h1] at h; exact absurd h (by decide)
  | true =>
    cases h2 : Kb.validB size ws with
    | false => rw [scode_q h2] at h; exact absurd h (by decide)
    | true =>
      refine ⟨rfl, rfl, ?_⟩
      by_cases e : size = (p.length : Int)
      · exact e
      · rw [scode_len h1 h2 e] at h; exact absurd h (by decide)

set_option maxRecDepth 100000 in
set_option maxHeartbeats 400000 in
theorem check_any (A : Option Addr) (ca : Nat) (p : List Int) (size : Int) (B : Option Addr) (cb : Nat) (ws : List Nat) (w : World) (ha : Ints w w.heap.size A p) (hb : Words w w.heap.size B ws) (hlp : p.length ≤ 1000000) (hl : ws.length ≤ 140737488351232) :
    Calls Tryd.prog 45 #[.slice A p.length ca, setV size B ws.length cb] w fun e w' => e = .returned (.int .i64 (scode p size ws)) ∧ Below w.heap.size w w' := by
  unfold setV
  have hA := ha.alloc (Nat.le_refl _) (.cells #[.int .i64 size, .slice B ws.length cb] 24)
  have hB := hb.alloc (Nat.le_refl _) (.cells #[.int .i64 size, .slice B ws.length cb] 24)
  have b0 : Below w.heap.size w (w.alloc (.cells #[.int .i64 size, .slice B ws.length cb] 24)) := (Below.refl _ _).alloc (Nat.le_refl _) _
  cases hvp : Kp.vB p with
  | false =>
    have hR : Hid (scode p size ws = 1) := Lib.hid (scode_p hvp)
    have hV := Lib.hid hvp
    clear hvp
    go_enter Tryd.func45, Tryd.ntmps45
    go_wp2_with fail
    refine (bvalid_any A ca p _ (hA.more (by simp)) hlp).mono ?_
    rintro e w' ⟨rfl, rfl⟩
    rw [hV.out]
    go_wp2_with fail
    go_ret
    exact ⟨ret_int hR.out.symm, b0⟩
  | true =>
    have hV := Lib.hid hvp
    cases hvq : Kb.validB size ws with
    | false =>
      have hR : Hid (scode p size ws = 1) := Lib.hid (scode_q hvq)
      have hV2 := Lib.hid hvq
      clear hvp hvq
      go_enter Tryd.func45, Tryd.ntmps45
      go_wp2_with fail
      refine (bvalid_any A ca p _ (hA.more (by simp)) hlp).mono ?_
      rintro e w' ⟨rfl, rfl⟩
      rw [hV.out]
      go_wp2_with fail
      refine (Bs.bvalid_any size B cb ws _ (hB.more (by simp)) hl).mono ?_
      rintro e w1 ⟨rfl, hb1⟩
      rw [hV2.out]
      go_wp2_with fail
      go_ret
      exact ⟨ret_int hR.out.symm, b0.trans (hb1.mono b0.size)⟩
    | true =>
      have hV2 := Lib.hid hvq
      have t1 : ∀ w1, Below (w.alloc (.cells #[.int .i64 size, .slice B ws.length cb] 24)).heap.size (w.alloc (.cells #[.int .i64 size, .slice B ws.length cb] 24)) w1 → Two w1 w.heap.size (.int .i64 size) (.slice B ws.length cb) := fun w1 hb1 => (Two.new_ _ _ _ _).below hb1 (by simp)
      by_cases hs : size = (p.length : Int)
      · have hR : Hid (scode p size ws = 0) := Lib.hid (scode_ok hvp hvq hs)
        have hl1 : (size != (p.length : Int)) = false := by simp [hs]
        have hS := Lib.hid hs
        clear hvp hvq hs
        go_enter Tryd.func45, Tryd.ntmps45
        go_wp2_with fail
        refine (bvalid_any A ca p _ (hA.more (by simp)) hlp).mono ?_
        rintro e w' ⟨rfl, rfl⟩
        rw [hV.out]
        go_wp2_with fail
        refine (Bs.bvalid_any size B cb ws _ (hB.more (by simp)) hl).mono ?_
        rintro e w1 ⟨rfl, hb1⟩
        rw [hV2.out]
        have c0 := (t1 _ hb1).c0
        go_wp2_with fail
        go_ret
        exact ⟨ret_int hR.out.symm, b0.trans (hb1.mono b0.size)⟩
      · have hR : Hid (scode p size ws = 2) := Lib.hid (scode_len hvp hvq hs)
        have hl1 : (size != (p.length : Int)) = true := by simp [hs]
        have hS := Lib.hid hs
        clear hvp hvq hs
        go_enter Tryd.func45, Tryd.ntmps45
        go_wp2_with fail
        refine (bvalid_any A ca p _ (hA.more (by simp)) hlp).mono ?_
        rintro e w' ⟨rfl, rfl⟩
        rw [hV.out]
        go_wp2_with fail
        refine (Bs.bvalid_any size B cb ws _ (hB.more (by simp)) hl).mono ?_
        rintro e w1 ⟨rfl, hb1⟩
        rw [hV2.out]
        have c0 := (t1 _ hb1).c0
        go_wp2_with fail
        go_ret
        exact ⟨ret_int hR.out.symm, b0.trans (hb1.mono b0.size)⟩

set_option maxRecDepth 100000 in
set_option maxHeartbeats 400000 in
theorem split_any (A : Option Addr) (ca : Nat) (p : List Int) (size : Int) (B : Option Addr) (cb : Nat) (ws : List Nat) (w : World) (ha : Ints w w.heap.size A p) (hb : Words w w.heap.size B ws) (hlp : p.length ≤ 1000000) (hl : ws.length ≤ 140737488351232) :
    Calls Tryd.prog 46 #[.slice A p.length ca, setV size B ws.length cb] w fun e w' => e = .returned (.int .i64 (scode p size ws)) ∧ Below w.heap.size w w' := by
  unfold setV
  have hA := ha.alloc (Nat.le_refl _) (.cells #[.int .i64 size, .slice B ws.length cb] 24)
  have hB := hb.alloc (Nat.le_refl _) (.cells #[.int .i64 size, .slice B ws.length cb] 24)
  have b0 : Below w.heap.size w (w.alloc (.cells #[.int .i64 size, .slice B ws.length cb] 24)) := (Below.refl _ _).alloc (Nat.le_refl _) _
  cases hvp : Kp.vB p with
  | false =>
    have hR : Hid (scode p size ws = 1) := Lib.hid (scode_p hvp)
    have hV := Lib.hid hvp
    clear hvp
    go_enter Tryd.func46, Tryd.ntmps46
    go_wp2_with fail
    refine (rvalid_any A ca p _ (hA.more (by simp)) hlp).mono ?_
    rintro e w' ⟨rfl, rfl⟩
    rw [hV.out]
    go_wp2_with fail
    go_ret
    exact ⟨ret_int hR.out.symm, b0⟩
  | true =>
    have hV := Lib.hid hvp
    cases hvq : Kb.validB size ws with
    | false =>
      have hR : Hid (scode p size ws = 1) := Lib.hid (scode_q hvq)
      have hV2 := Lib.hid hvq
      clear hvp hvq
      go_enter Tryd.func46, Tryd.ntmps46
      go_wp2_with fail
      refine (rvalid_any A ca p _ (hA.more (by simp)) hlp).mono ?_
      rintro e w' ⟨rfl, rfl⟩
      rw [hV.out]
      go_wp2_with fail
      refine (setok_any size B cb ws _ (hB.more (by simp)) hl).mono ?_
      rintro e w1 ⟨rfl, hb1⟩
      rw [hV2.out]
      go_wp2_with fail
      go_ret
      exact ⟨ret_int hR.out.symm, b0.trans (hb1.mono b0.size)⟩
    | true =>
      have hV2 := Lib.hid hvq
      have t1 : ∀ w1, Below (w.alloc (.cells #[.int .i64 size, .slice B ws.length cb] 24)).heap.size (w.alloc (.cells #[.int .i64 size, .slice B ws.length cb] 24)) w1 → Two w1 w.heap.size (.int .i64 size) (.slice B ws.length cb) := fun w1 hb1 => (Two.new_ _ _ _ _).below hb1 (by simp)
      by_cases hs : size = (p.length : Int)
      · have hR : Hid (scode p size ws = 0) := Lib.hid (scode_ok hvp hvq hs)
        have hl1 : (size != (p.length : Int)) = false := by simp [hs]
        have hS := Lib.hid hs
        clear hvp hvq hs
        go_enter Tryd.func46, Tryd.ntmps46
        go_wp2_with fail
        refine (rvalid_any A ca p _ (hA.more (by simp)) hlp).mono ?_
        rintro e w' ⟨rfl, rfl⟩
        rw [hV.out]
        go_wp2_with fail
        refine (setok_any size B cb ws _ (hB.more (by simp)) hl).mono ?_
        rintro e w1 ⟨rfl, hb1⟩
        rw [hV2.out]
        have c0 := (t1 _ hb1).c0
        go_wp2_with fail
        go_ret
        exact ⟨ret_int hR.out.symm, b0.trans (hb1.mono b0.size)⟩
      · have hR : Hid (scode p size ws = 2) := Lib.hid (scode_len hvp hvq hs)
        have hl1 : (size != (p.length : Int)) = true := by simp [hs]
        have hS := Lib.hid hs
        clear hvp hvq hs
        go_enter Tryd.func46, Tryd.ntmps46
        go_wp2_with fail
        refine (rvalid_any A ca p _ (hA.more (by simp)) hlp).mono ?_
        rintro e w' ⟨rfl, rfl⟩
        rw [hV.out]
        go_wp2_with fail
        refine (setok_any size B cb ws _ (hB.more (by simp)) hl).mono ?_
        rintro e w1 ⟨rfl, hb1⟩
        rw [hV2.out]
        have c0 := (t1 _ hb1).c0
        go_wp2_with fail
        go_ret
        exact ⟨ret_int hR.out.symm, b0.trans (hb1.mono b0.size)⟩
end Go.Proofs.YtcicejmahlobhaaDoor
