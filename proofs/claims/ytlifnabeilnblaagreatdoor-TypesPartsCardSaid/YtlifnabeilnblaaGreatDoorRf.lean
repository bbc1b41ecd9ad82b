/- Walks: the reference's check of a type, its parts. -/
import Derived.Test.YtlifnabeilnblaaGreatDoorRa
import Derived.Test.YtlifnabeilnblaaGreatDoorIsr
import Derived.Test.YtlifnabeilnblaaGreatDoorNm
import Derived.Deep.DeepCutAuto
import Derived.Deep.RegionWith
namespace Go.Proofs.YtlifnabeilnblaaGreatDoor
open Go.RowKit Go.Sort
set_option linter.unusedVariables false

theorem nm_empty {s : ByteArray} (h : s.size = 0) : s.toList.isEmpty = true ∧ s = ⟨#[]⟩ := by
  have : s = ⟨#[]⟩ := empty_bs h
  subst this
  exact ⟨by rw [bs_toList]; rfl, rfl⟩
theorem nm_full {s : ByteArray} (h : s.size ≠ 0) : s.toList.isEmpty = false ∧ s.toList ≠ [] ∧ s ≠ ⟨#[]⟩ := by
  have h1 : s.toList ≠ [] := by
    intro hh
    rw [bs_toList] at hh
    have := congrArg List.length hh
    rw [bs_length] at this
    exact h this
  refine ⟨by simpa using h1, h1, ?_⟩
  rintro rfl; exact h rfl
theorem bx7 {w : World} {b : Nat} {e : G} (h : Blk w b e.box) :
    w.cell? ⟨b, 0, none⟩ = some (.int .i64 e.kd) ∧ w.cell? ⟨b, 1, none⟩ = some (.int .i64 e.lo) ∧ w.cell? ⟨b, 2, none⟩ = some (.int .i64 e.hi) ∧ w.cell? ⟨b, 3, none⟩ = some (.int .i64 e.sz) ∧ w.cell? ⟨b, 4, none⟩ = some (.string e.nm) ∧ w.cell? ⟨b, 5, none⟩ = some (.slice e.na e.ns.length e.nc) ∧ w.cell? ⟨b, 6, none⟩ = some (.slice e.ad e.ks.length e.cap) :=
  ⟨h.c 0 rfl, h.c 1 rfl, h.c 2 rfl, h.c 3 rfl, h.c 4 rfl, h.c 5 rfl, h.c 6 rfl⟩
/-- the fields that are not used are zero -/
def fz (e : G) : Bool := (decide (e.kd = 1) || (decide (e.lo = 0) && decide (e.hi = 0))) && (decide (e.kd = 2) || decide (e.sz = 0)) && (decide (e.kd = 4) || decide (e.nm.size = 0)) && (decide (e.kd = 3) || decide (e.ns.length = 0))
/-- the components are as many as the kind asks -/
def fk (e : G) : Bool := (decide (e.kd ≠ 2) || decide (e.ks.length = 1)) && (decide (e.kd ≠ 3) || (decide (1 ≤ e.ks.length) && decide (e.ks.length = e.ns.length))) && (decide (e.kd = 2) || decide (e.kd = 3) || decide (e.ks.length = 0))
theorem rform1_eq (e : G) : G.rform1 e = (decide (0 ≤ e.kd) && decide (e.kd ≤ 4) && fz e && fk e) := by
  unfold G.rform1 fz fk
  simp only [Bool.and_assoc]
/-- the contract of the form -/
def FmE (e : G) : Prop := ∀ w : World, G.In w w.heap.size e → Calls Tryz.prog 67 #[e.val] w fun r w' => r = .returned (.bool e.rform) ∧ Below w.heap.size w w'
set_option maxRecDepth 100000 in
set_option maxHeartbeats 8000000 in
theorem rform_any (e : G) : FmE e := by
  induction e using G.ind with
  | h e ih =>
  intro w hin
  have IH := Lib.hid ih
  have hl := hin.l
  have hlen := hin.nd.len
  have hnlen := hin.nd.nlen
  have HF : Hid (e.rform = (decide (0 ≤ e.kd) && decide (e.kd ≤ 4) && fz e && fk e && e.ks.all G.rform)) := Lib.hid (by rw [G.rform_eq, rform1_eq])
  have X := Eb.start w e 26
  obtain ⟨A, hA⟩ : ∃ A, Hid (e.ad = A) := ⟨_, Lib.hid rfl⟩
  rw [hA.out] at hl
  obtain ⟨z, hz⟩ : ∃ z, Hid (e.rform = z) := ⟨_, Lib.hid rfl⟩
  rw [hz.out] at HF ⊢
  clear ih hin hz
  by_cases hlo : e.kd < 0
  · have HQ : Hid (false = z) := Lib.hid (by rw [HF.out, decide_eq_false (show ¬ 0 ≤ e.kd by omega)]; rfl)
    have b1 := X.bel
    clear HF
    go_enter Tryz.func67, Tryz.ntmps67
    go_wp2_with fail
    go_ret
    exact ⟨ret_bool HQ.out, b1⟩
  by_cases hhi : 4 < e.kd
  · have HQ : Hid (false = z) := Lib.hid (by rw [HF.out, decide_eq_false (show ¬ e.kd ≤ 4 by omega)]; simp)
    have b1 := X.bel
    clear HF
    go_enter Tryz.func67, Tryz.ntmps67
    go_wp2_with fail
    go_ret
    exact ⟨ret_bool HQ.out, b1⟩
  have HF2 : Hid (z = (fz e && fk e && e.ks.all G.rform)) := Lib.hid (by rw [HF.out, decide_eq_true (show 0 ≤ e.kd by omega), decide_eq_true (show e.kd ≤ 4 by omega)]; rfl)
  clear HF
  obtain ⟨f1, hf1⟩ : ∃ f1, Hid (f1 = !fz e) := ⟨_, Lib.hid rfl⟩
  obtain ⟨f2, hf2⟩ : ∃ f2, Hid (f2 = !fk e) := ⟨_, Lib.hid rfl⟩
  have hK : Hid (e.kd = 0 ∨ e.kd = 1 ∨ e.kd = 2 ∨ e.kd = 3 ∨ e.kd = 4) := Lib.hid (by omega)
  go_enter Tryz.func67, Tryz.ntmps67
  go_upto_region 3 with (fail)
  clear hlo hhi
  revert X
  generalize w.alloc (.cells #[.int .i64 e.kd, .int .i64 e.lo, .int .i64 e.hi, .int .i64 e.sz, .string e.nm, .slice e.na e.ns.length e.nc, .slice e.ad e.ks.length e.cap] 26) = w1
  intro X
  go_cut [55] (fun s wx => s = .bool f1 ∧ Eb w wx e)
  case first =>
    obtain ⟨k0, k1, k2, k3, k4, k5, k6⟩ := bx7 X.be
    rcases hK.out with hk | hk | hk | hk | hk
    · rw [hk] at k0
      by_cases hL : e.lo = 0
      case neg =>
        have HR : Hid (Value.bool true = Value.bool f1) := Lib.hid (by rw [hf1.out]; unfold fz; rw [hk]; simp [hL])
        have qL : (e.lo != 0) = true := by simpa using hL
        clear hk hL
        go_wp2_with fail
        go_meet
        exact ⟨HR.out, X⟩
      have qL : (e.lo != 0) = false := by rw [hL]; rfl
      by_cases hH : e.hi = 0
      case neg =>
        have HR : Hid (Value.bool true = Value.bool f1) := Lib.hid (by rw [hf1.out]; unfold fz; rw [hk]; simp [hH])
        have qH : (e.hi != 0) = true := by simpa using hH
        clear hk hH
        go_wp2_with fail
        go_meet
        exact ⟨HR.out, X⟩
      have qH : (e.hi != 0) = false := by rw [hH]; rfl
      by_cases hZ : e.sz = 0
      case neg =>
        have HR : Hid (Value.bool true = Value.bool f1) := Lib.hid (by rw [hf1.out]; unfold fz; rw [hk]; simp [hZ])
        have qZ : (e.sz != 0) = true := by simpa using hZ
        clear hk hZ
        go_wp2_with fail
        go_meet
        exact ⟨HR.out, X⟩
      have qZ : (e.sz != 0) = false := by rw [hZ]; rfl
      by_cases hS : e.nm.size = 0
      case neg =>
        have HR : Hid (Value.bool true = Value.bool f1) := Lib.hid (by rw [hf1.out]; unfold fz; rw [hk]; simp [hS])
        obtain ⟨s1, s2, s3⟩ := nm_full hS
        clear hk hS
        go_wp2_with fail
        go_meet
        exact ⟨HR.out, X⟩
      have s1 := (nm_empty hS).1
      by_cases hN : e.ns.length = 0
      case neg =>
        have HR : Hid (Value.bool true = Value.bool f1) := Lib.hid (by rw [hf1.out]; unfold fz; rw [hk]; simp [hN])
        have qN : (((e.ns.length : Nat) : Int) != 0) = true := by rw [bne_iff_ne]; omega
        clear hk hN
        go_wp2_with fail
        go_meet
        exact ⟨HR.out, X⟩
      have qN : (((e.ns.length : Nat) : Int) != 0) = false := by rw [hN]; rfl
      have HR : Hid (Value.bool false = Value.bool f1) := Lib.hid (by rw [hf1.out]; unfold fz; rw [hk]; simp [hL, hH, hZ, hS, hN])
      clear hk hL hH hZ hS hN
      go_wp2_with fail
      go_meet
      exact ⟨HR.out, X⟩
    · rw [hk] at k0
      by_cases hZ : e.sz = 0
      case neg =>
        have HR : Hid (Value.bool true = Value.bool f1) := Lib.hid (by rw [hf1.out]; unfold fz; rw [hk]; simp [hZ])
        have qZ : (e.sz != 0) = true := by simpa using hZ
        clear hk hZ
        go_wp2_with fail
        go_meet
        exact ⟨HR.out, X⟩
      have qZ : (e.sz != 0) = false := by rw [hZ]; rfl
      by_cases hS : e.nm.size = 0
      case neg =>
        have HR : Hid (Value.bool true = Value.bool f1) := Lib.hid (by rw [hf1.out]; unfold fz; rw [hk]; simp [hS])
        obtain ⟨s1, s2, s3⟩ := nm_full hS
        clear hk hS
        go_wp2_with fail
        go_meet
        exact ⟨HR.out, X⟩
      have s1 := (nm_empty hS).1
      by_cases hN : e.ns.length = 0
      case neg =>
        have HR : Hid (Value.bool true = Value.bool f1) := Lib.hid (by rw [hf1.out]; unfold fz; rw [hk]; simp [hN])
        have qN : (((e.ns.length : Nat) : Int) != 0) = true := by rw [bne_iff_ne]; omega
        clear hk hN
        go_wp2_with fail
        go_meet
        exact ⟨HR.out, X⟩
      have qN : (((e.ns.length : Nat) : Int) != 0) = false := by rw [hN]; rfl
      have HR : Hid (Value.bool false = Value.bool f1) := Lib.hid (by rw [hf1.out]; unfold fz; rw [hk]; simp [hZ, hS, hN])
      clear hk hZ hS hN
      go_wp2_with fail
      go_meet
      exact ⟨HR.out, X⟩
    · rw [hk] at k0
      by_cases hL : e.lo = 0
      case neg =>
        have HR : Hid (Value.bool true = Value.bool f1) := Lib.hid (by rw [hf1.out]; unfold fz; rw [hk]; simp [hL])
        have qL : (e.lo != 0) = true := by simpa using hL
        clear hk hL
        go_wp2_with fail
        go_meet
        exact ⟨HR.out, X⟩
      have qL : (e.lo != 0) = false := by rw [hL]; rfl
      by_cases hH : e.hi = 0
      case neg =>
        have HR : Hid (Value.bool true = Value.bool f1) := Lib.hid (by rw [hf1.out]; unfold fz; rw [hk]; simp [hH])
        have qH : (e.hi != 0) = true := by simpa using hH
        clear hk hH
        go_wp2_with fail
        go_meet
        exact ⟨HR.out, X⟩
      have qH : (e.hi != 0) = false := by rw [hH]; rfl
      by_cases hS : e.nm.size = 0
      case neg =>
        have HR : Hid (Value.bool true = Value.bool f1) := Lib.hid (by rw [hf1.out]; unfold fz; rw [hk]; simp [hS])
        obtain ⟨s1, s2, s3⟩ := nm_full hS
        clear hk hS
        go_wp2_with fail
        go_meet
        exact ⟨HR.out, X⟩
      have s1 := (nm_empty hS).1
      by_cases hN : e.ns.length = 0
      case neg =>
        have HR : Hid (Value.bool true = Value.bool f1) := Lib.hid (by rw [hf1.out]; unfold fz; rw [hk]; simp [hN])
        have qN : (((e.ns.length : Nat) : Int) != 0) = true := by rw [bne_iff_ne]; omega
        clear hk hN
        go_wp2_with fail
        go_meet
        exact ⟨HR.out, X⟩
      have qN : (((e.ns.length : Nat) : Int) != 0) = false := by rw [hN]; rfl
      have HR : Hid (Value.bool false = Value.bool f1) := Lib.hid (by rw [hf1.out]; unfold fz; rw [hk]; simp [hL, hH, hS, hN])
      clear hk hL hH hS hN
      go_wp2_with fail
      go_meet
      exact ⟨HR.out, X⟩
    · rw [hk] at k0
      by_cases hL : e.lo = 0
      case neg =>
        have HR : Hid (Value.bool true = Value.bool f1) := Lib.hid (by rw [hf1.out]; unfold fz; rw [hk]; simp [hL])
        have qL : (e.lo != 0) = true := by simpa using hL
        clear hk hL
        go_wp2_with fail
        go_meet
        exact ⟨HR.out, X⟩
      have qL : (e.lo != 0) = false := by rw [hL]; rfl
      by_cases hH : e.hi = 0
      case neg =>
        have HR : Hid (Value.bool true = Value.bool f1) := Lib.hid (by rw [hf1.out]; unfold fz; rw [hk]; simp [hH])
        have qH : (e.hi != 0) = true := by simpa using hH
        clear hk hH
        go_wp2_with fail
        go_meet
        exact ⟨HR.out, X⟩
      have qH : (e.hi != 0) = false := by rw [hH]; rfl
      by_cases hZ : e.sz = 0
      case neg =>
        have HR : Hid (Value.bool true = Value.bool f1) := Lib.hid (by rw [hf1.out]; unfold fz; rw [hk]; simp [hZ])
        have qZ : (e.sz != 0) = true := by simpa using hZ
        clear hk hZ
        go_wp2_with fail
        go_meet
        exact ⟨HR.out, X⟩
      have qZ : (e.sz != 0) = false := by rw [hZ]; rfl
      by_cases hS : e.nm.size = 0
      case neg =>
        have HR : Hid (Value.bool true = Value.bool f1) := Lib.hid (by rw [hf1.out]; unfold fz; rw [hk]; simp [hS])
        obtain ⟨s1, s2, s3⟩ := nm_full hS
        clear hk hS
        go_wp2_with fail
        go_meet
        exact ⟨HR.out, X⟩
      have s1 := (nm_empty hS).1
      have HR : Hid (Value.bool false = Value.bool f1) := Lib.hid (by rw [hf1.out]; unfold fz; rw [hk]; simp [hL, hH, hZ, hS])
      clear hk hL hH hZ hS
      go_wp2_with fail
      go_meet
      exact ⟨HR.out, X⟩
    · rw [hk] at k0
      by_cases hL : e.lo = 0
      case neg =>
        have HR : Hid (Value.bool true = Value.bool f1) := Lib.hid (by rw [hf1.out]; unfold fz; rw [hk]; simp [hL])
        have qL : (e.lo != 0) = true := by simpa using hL
        clear hk hL
        go_wp2_with fail
        go_meet
        exact ⟨HR.out, X⟩
      have qL : (e.lo != 0) = false := by rw [hL]; rfl
      by_cases hH : e.hi = 0
      case neg =>
        have HR : Hid (Value.bool true = Value.bool f1) := Lib.hid (by rw [hf1.out]; unfold fz; rw [hk]; simp [hH])
        have qH : (e.hi != 0) = true := by simpa using hH
        clear hk hH
        go_wp2_with fail
        go_meet
        exact ⟨HR.out, X⟩
      have qH : (e.hi != 0) = false := by rw [hH]; rfl
      by_cases hZ : e.sz = 0
      case neg =>
        have HR : Hid (Value.bool true = Value.bool f1) := Lib.hid (by rw [hf1.out]; unfold fz; rw [hk]; simp [hZ])
        have qZ : (e.sz != 0) = true := by simpa using hZ
        clear hk hZ
        go_wp2_with fail
        go_meet
        exact ⟨HR.out, X⟩
      have qZ : (e.sz != 0) = false := by rw [hZ]; rfl
      by_cases hN : e.ns.length = 0
      case neg =>
        have HR : Hid (Value.bool true = Value.bool f1) := Lib.hid (by rw [hf1.out]; unfold fz; rw [hk]; simp [hN])
        have qN : (((e.ns.length : Nat) : Int) != 0) = true := by rw [bne_iff_ne]; omega
        clear hk hN
        go_wp2_with fail
        go_meet
        exact ⟨HR.out, X⟩
      have qN : (((e.ns.length : Nat) : Int) != 0) = false := by rw [hN]; rfl
      have HR : Hid (Value.bool false = Value.bool f1) := Lib.hid (by rw [hf1.out]; unfold fz; rw [hk]; simp [hL, hH, hZ, hN])
      clear hk hL hH hZ hN
      go_wp2_with fail
      go_meet
      exact ⟨HR.out, X⟩
  case rest =>
    obtain ⟨rfl, X⟩ := hcut
    cases hfz : fz e with
    | false =>
      have hv : Hid ((!fz e) = true) := Lib.hid (by rw [hfz]; rfl)
      have HQ : Hid (false = z) := Lib.hid (by rw [HF2.out, hfz]; rfl)
      have b1 := X.bel
      have hf1v : Hid (f1 = true) := Lib.hid (by rw [hf1.out, hfz]; rfl)
      obtain rfl := hf1v.out
      clear hfz HF2 hv
      go_wp2_with fail
      go_ret
      exact ⟨ret_bool HQ.out, b1⟩
    | true =>
      have HF3 : Hid (z = (fk e && e.ks.all G.rform)) := Lib.hid (by rw [HF2.out, hfz]; rfl)
      have hf1v : Hid (f1 = false) := Lib.hid (by rw [hf1.out, hfz]; rfl)
      obtain rfl := hf1v.out
      clear hfz HF2
      go_upto_region 5 with (fail)
      go_cut [100] (fun s wx => s = .bool f2 ∧ Eb w wx e)
      case first =>
        obtain ⟨k0, k1, k2, k3, k4, k5, k6⟩ := bx7 X.be
        rcases hK.out with hk | hk | hk | hk | hk
        · rw [hk] at k0
          by_cases hN : e.ks.length = 0
          · have qN : (((e.ks.length : Nat) : Int) != 0) = false := by rw [hN]; rfl
            have HR : Hid (Value.bool false = Value.bool f2) := Lib.hid (by rw [hf2.out]; unfold fk; rw [hk]; simp [hN])
            clear hk hN
            go_wp2_with fail
            go_meet
            exact ⟨HR.out, X⟩
          · have qN : (((e.ks.length : Nat) : Int) != 0) = true := by rw [bne_iff_ne]; omega
            have HR : Hid (Value.bool true = Value.bool f2) := Lib.hid (by rw [hf2.out]; unfold fk; rw [hk]; simp [hN])
            clear hk hN
            go_wp2_with fail
            go_meet
            exact ⟨HR.out, X⟩
        · rw [hk] at k0
          by_cases hN : e.ks.length = 0
          · have qN : (((e.ks.length : Nat) : Int) != 0) = false := by rw [hN]; rfl
            have HR : Hid (Value.bool false = Value.bool f2) := Lib.hid (by rw [hf2.out]; unfold fk; rw [hk]; simp [hN])
            clear hk hN
            go_wp2_with fail
            go_meet
            exact ⟨HR.out, X⟩
          · have qN : (((e.ks.length : Nat) : Int) != 0) = true := by rw [bne_iff_ne]; omega
            have HR : Hid (Value.bool true = Value.bool f2) := Lib.hid (by rw [hf2.out]; unfold fk; rw [hk]; simp [hN])
            clear hk hN
            go_wp2_with fail
            go_meet
            exact ⟨HR.out, X⟩
        · rw [hk] at k0
          by_cases hN : e.ks.length = 1
          · have qN : (((e.ks.length : Nat) : Int) != 1) = false := by rw [hN]; rfl
            have HR : Hid (Value.bool false = Value.bool f2) := Lib.hid (by rw [hf2.out]; unfold fk; rw [hk]; simp [hN])
            clear hk hN
            go_wp2_with fail
            go_meet
            exact ⟨HR.out, X⟩
          · have qN : (((e.ks.length : Nat) : Int) != 1) = true := by rw [bne_iff_ne]; omega
            have HR : Hid (Value.bool true = Value.bool f2) := Lib.hid (by rw [hf2.out]; unfold fk; rw [hk]; simp [hN])
            clear hk hN
            go_wp2_with fail
            go_meet
            exact ⟨HR.out, X⟩
        · rw [hk] at k0
          by_cases hN : 1 ≤ e.ks.length
          · have qN : ¬ (((e.ks.length : Nat) : Int) < 1) := by omega
            by_cases hM : e.ks.length = e.ns.length
            · have qM : (((e.ks.length : Nat) : Int) != ((e.ns.length : Nat) : Int)) = false := by rw [hM]; simp
              have HR : Hid (Value.bool false = Value.bool f2) := Lib.hid (by rw [hf2.out]; unfold fk; rw [hk, decide_eq_true hN, decide_eq_true hM]; rfl)
              clear hk hN hM
              go_wp2_with fail
              go_meet
              exact ⟨HR.out, X⟩
            · have qM : (((e.ks.length : Nat) : Int) != ((e.ns.length : Nat) : Int)) = true := by simp; omega
              have HR : Hid (Value.bool true = Value.bool f2) := Lib.hid (by rw [hf2.out]; unfold fk; rw [hk, decide_eq_false hM]; simp)
              clear hk hN hM
              go_wp2_with fail
              go_meet
              exact ⟨HR.out, X⟩
          · have qN : (((e.ks.length : Nat) : Int) < 1) := by omega
            have HR : Hid (Value.bool true = Value.bool f2) := Lib.hid (by rw [hf2.out]; unfold fk; rw [hk, decide_eq_false hN]; simp)
            clear hk hN
            go_wp2_with fail
            go_meet
            exact ⟨HR.out, X⟩
        · rw [hk] at k0
          by_cases hN : e.ks.length = 0
          · have qN : (((e.ks.length : Nat) : Int) != 0) = false := by rw [hN]; rfl
            have HR : Hid (Value.bool false = Value.bool f2) := Lib.hid (by rw [hf2.out]; unfold fk; rw [hk]; simp [hN])
            clear hk hN
            go_wp2_with fail
            go_meet
            exact ⟨HR.out, X⟩
          · have qN : (((e.ks.length : Nat) : Int) != 0) = true := by rw [bne_iff_ne]; omega
            have HR : Hid (Value.bool true = Value.bool f2) := Lib.hid (by rw [hf2.out]; unfold fk; rw [hk]; simp [hN])
            clear hk hN
            go_wp2_with fail
            go_meet
            exact ⟨HR.out, X⟩
      case rest =>
        obtain ⟨rfl, X⟩ := hcut
        cases hfk : fk e with
        | false =>
          have HQ : Hid (false = z) := Lib.hid (by rw [HF3.out, hfk]; rfl)
          have b1 := X.bel
          have hf2v : Hid (f2 = true) := Lib.hid (by rw [hf2.out, hfk]; rfl)
          obtain rfl := hf2v.out
          clear hfk HF3
          go_wp2_with fail
          go_ret
          exact ⟨ret_bool HQ.out, b1⟩
        | true =>
          have HR : Hid (z = e.ks.all G.rform) := Lib.hid (by rw [HF3.out, hfk]; rfl)
          have hf2v : Hid (f2 = false) := Lib.hid (by rw [hf2.out, hfk]; rfl)
          obtain rfl := hf2v.out
          clear hfk HF3
          go_wp2_with fail
          go_loopw [3] (fun iv wr => ∃ i : Nat, i ≤ e.ks.length ∧ iv = .int .i64 i ∧ Hid (∀ k, k < i → ∀ e', G.Is e.ks k e' → G.rform e' = true) ∧ Eb w wr e) (fun iv _ => e.ks.length - (intOf iv).toNat)
          case atStart => exact ⟨0, Nat.zero_le _, rfl, Lib.hid (fun k hk => absurd hk (Nat.not_lt_zero _)), X⟩
          case round =>
            clear X
            obtain ⟨i, hi, rfl, hg, Y⟩ := hrel
            have c6 := Y.c6
            rw [hA.out] at c6
            have b3 := Y.bel
            by_cases hlt : i < e.ks.length
            · obtain ⟨ab, off, k, rfl, hab, ⟨d0, d1, d2, d3, d4, d5, d6⟩, his, hkin⟩ := (hl.below Y.bel).at_ hlt
              have HI := Lib.hid (IH.out k his.mem)
              have hk2 := Y.kid hkin
              cases hb2 : G.rform k with
              | false =>
                have HQ : Hid (false = z) := Lib.hid (by rw [HR.out, G.all_bad his hb2])
                have HB2 := Lib.hid hb2
                clear hb2 hkin hg
                go_wp2_with fail
                refine (HI.out _ hk2).mono ?_
                rintro r w2 ⟨rfl, b2⟩
                rw [HB2.out]
                go_wp2_with fail
                go_ret
                exact ⟨ret_bool HQ.out, bTrans b3 b2⟩
              | true =>
                have HG : Hid (∀ k, k < i + 1 → ∀ e', G.Is e.ks k e' → G.rform e' = true) := Lib.hid (G.all_next (p := G.rform) hg.out his hb2)
                have HB2 := Lib.hid hb2
                clear hb2 hkin hg
                go_wp2_with fail
                refine (HI.out _ hk2).mono ?_
                rintro r w2 ⟨rfl, b2⟩
                rw [HB2.out]
                have Y2 := Y.below b2
                go_wp2_with fail
                go_roundw
                case rel => exact ⟨i + 1, by omega, by go_num, HG, Y2⟩
                case measure => simp [intOf]; omega
            · obtain rfl : i = e.ks.length := by omega
              have HQ : Hid (true = z) := Lib.hid (by rw [HR.out, G.all_good hg.out])
              go_wp2_with fail
              go_ret
              exact ⟨ret_bool HQ.out, b3⟩
end Go.Proofs.YtlifnabeilnblaaGreatDoor
