/- Walks: sign of package lexer. -/
import Derived.Test.YtcckocaaoklibaaDoorW1
namespace Go.Proofs.YtcckocaaoklibaaDoor
open Go.RowKit
set_option linter.unusedVariables false

/-- the single signs, as numbers -/
def Kx.sg1 (a : Nat) : Bool := [59, 58, 44, 46, 61, 43, 45, 42, 47, 37, 60, 62, 33, 63, 40, 41, 91, 93, 123, 125].contains a
theorem Kx.sgl_nat (a : UInt8) : Kx.sgl.contains a = Kx.sg1 a.toNat := by
  have h : ∀ n : Fin 256, Kx.sgl.contains (UInt8.ofNat n.val) = Kx.sg1 (UInt8.ofNat n.val).toNat := by decide +kernel
  have := h ⟨a.toNat, a.toNat_lt⟩
  simpa using this
theorem Kx.sg1_cases {a : Nat} (h : Kx.sg1 a = true) : a = 59 ∨ a = 58 ∨ a = 44 ∨ a = 46 ∨ a = 61 ∨ a = 43 ∨ a = 45 ∨ a = 42 ∨ a = 47 ∨ a = 37 ∨ a = 60 ∨ a = 62 ∨ a = 33 ∨ a = 63 ∨ a = 40 ∨ a = 41 ∨ a = 91 ∨ a = 93 ∨ a = 123 ∨ a = 125 := by
  simpa [Kx.sg1] using h
theorem Kx.sg1_no {a : Nat} (h : Kx.sg1 a = false) : a ≠ 59 ∧ a ≠ 58 ∧ a ≠ 44 ∧ a ≠ 46 ∧ a ≠ 61 ∧ a ≠ 43 ∧ a ≠ 45 ∧ a ≠ 42 ∧ a ≠ 47 ∧ a ≠ 37 ∧ a ≠ 60 ∧ a ≠ 62 ∧ a ≠ 33 ∧ a ≠ 63 ∧ a ≠ 40 ∧ a ≠ 41 ∧ a ≠ 91 ∧ a ≠ 93 ∧ a ≠ 123 ∧ a ≠ 125 := by
  refine ⟨?_, ?_, ?_, ?_, ?_, ?_, ?_, ?_, ?_, ?_, ?_, ?_, ?_, ?_, ?_, ?_, ?_, ?_, ?_, ?_⟩ <;> (rintro rfl; exact absurd h (by decide))
theorem Kx.dbl_cases {a b : UInt8} (h : Kx.dbl.contains (a, b) = true) : (a = 46 ∧ b = 46) ∨ (a = 61 ∧ b = 61) ∨ (a = 33 ∧ b = 61) ∨ (a = 60 ∧ b = 61) ∨ (a = 62 ∧ b = 61) ∨ (a = 38 ∧ b = 38) ∨ (a = 124 ∧ b = 124) := by
  simpa [Kx.dbl] using h
theorem Kx.dbl_no {a b : UInt8} (h : Kx.dbl.contains (a, b) = false) : ¬ (a = 46 ∧ b = 46) ∧ ¬ (a = 61 ∧ b = 61) ∧ ¬ (a = 33 ∧ b = 61) ∧ ¬ (a = 60 ∧ b = 61) ∧ ¬ (a = 62 ∧ b = 61) ∧ ¬ (a = 38 ∧ b = 38) ∧ ¬ (a = 124 ∧ b = 124) := by
  refine ⟨?_, ?_, ?_, ?_, ?_, ?_, ?_⟩ <;> (rintro ⟨rfl, rfl⟩; exact absurd h (by decide))
theorem sg_two {s : ByteArray} (h : 1 < s.size) (hd : Kx.dbl.contains (s[0]'(by omega), s[1]) = true) : s.extract 0 2 = mkB ((bs s).take (Kx.sgN (bs s))) := by
  have hl0 : (bs s) = s[0]'(by omega) :: s[1] :: (bs s).drop 2 := by
    have := drop_at (s := s) (k := 0) (by omega)
    rw [List.drop_zero, drop_at h] at this; exact this
  have : Kx.sgN (bs s) = 2 := by rw [hl0]; exact if_pos hd
  rw [this, ext_to]
theorem sg_sgl {s : ByteArray} (h : 0 < s.size) (hd : ∀ h2 : 1 < s.size, Kx.dbl.contains (s[0], s[1]) = false) (h1 : Kx.sg1 s[0].toNat = true) : s.extract 0 1 = mkB ((bs s).take (Kx.sgN (bs s))) := by
  have : Kx.sgN (bs s) = 1 := by
    have h0 := drop_at (s := s) (k := 0) h
    rw [List.drop_zero] at h0
    have hm := Kx.sgl_nat s[0]
    rw [h1] at hm
    by_cases h2 : 1 < s.size
    · rw [h0, drop_at h2]
      show (if Kx.dbl.contains (s[0], s[1]) then 2 else if Kx.sgl.contains s[0] then 1 else 0) = 1
      rw [hd h2, hm]; rfl
    · rw [h0, List.drop_of_length_le (by rw [bs_length]; omega)]
      show (if Kx.sgl.contains s[0] then 1 else 0) = 1
      rw [hm]; rfl
  rw [this, ext_to]
theorem sg_none {s : ByteArray} (h : 0 < s.size) (hd : ∀ h2 : 1 < s.size, Kx.dbl.contains (s[0], s[1]) = false) (h1 : Kx.sg1 s[0].toNat = false) : (⟨#[]⟩ : ByteArray) = mkB ((bs s).take (Kx.sgN (bs s))) := by
  have : Kx.sgN (bs s) = 0 := by
    have h0 := drop_at (s := s) (k := 0) h
    rw [List.drop_zero] at h0
    have hm := Kx.sgl_nat s[0]
    rw [h1] at hm
    by_cases h2 : 1 < s.size
    · rw [h0, drop_at h2]
      show (if Kx.dbl.contains (s[0], s[1]) then 2 else if Kx.sgl.contains s[0] then 1 else 0) = 0
      rw [hd h2, hm]; rfl
    · rw [h0, List.drop_of_length_le (by rw [bs_length]; omega)]
      show (if Kx.sgl.contains s[0] then 1 else 0) = 0
      rw [hm]; rfl
  rw [this]; rfl
theorem ext2 {s : ByteArray} (h : 1 < s.size) : (s.extract 0 2).toList = [s[0]'(by omega), s[1]] := by
  have h0 := drop_at (s := s) (k := 0) (by omega)
  rw [List.drop_zero, drop_at h] at h0
  rw [bs_toList, ext_to, bs_mk]
  conv => lhs; rw [h0]
  rfl
theorem two_no {s : ByteArray} (h : 1 < s.size) {x y : UInt8} (hn : ¬ (s[0]'(by omega) = x ∧ s[1] = y)) : ((s.extract 0 2).toList == [x, y]) = false := by
  rw [ext2 h, beq_eq_false_iff_ne]
  intro e
  injection e with e1 e2
  injection e2 with e2 _
  exact hn ⟨e1, e2⟩

set_option maxRecDepth 100000 in
set_option maxHeartbeats 4000000 in
theorem sign_two (s : ByteArray) (hs : s.size ≤ 1000000) (h1 : 1 < s.size) (hd : Kx.dbl.contains (s[0]'(by omega), s[1]) = true) (w : World) :
    Calls Tryd.prog 74 #[.string s] w fun e w' => e = .returned (.string (mkB ((bs s).take (Kx.sgN (bs s))))) ∧ w = w' := by
  have HR := Lib.hid (sg_two h1 hd)
  have he0 := ext2 h1
  have h2I : (2 : Int) ≤ (s.size : Int) := by omega
  have hc := Kx.dbl_cases hd
  clear hd
  rcases hc with ⟨e1, e2⟩ | ⟨e1, e2⟩ | ⟨e1, e2⟩ | ⟨e1, e2⟩ | ⟨e1, e2⟩ | ⟨e1, e2⟩ | ⟨e1, e2⟩
  all_goals
    rw [e1, e2] at he0
    clear e1 e2
    go_enter Tryd.func74, Tryd.ntmps74
    go_wp2_with fail
    go_ret
    exact ⟨ret_str HR.out, rfl⟩

set_option maxRecDepth 100000 in
set_option maxHeartbeats 8000000 in
theorem sign_one (s : ByteArray) (hs : s.size ≤ 1000000) (h0 : 0 < s.size) (hd : ∀ h2 : 1 < s.size, Kx.dbl.contains (s[0], s[1]) = false) (h1 : Kx.sg1 s[0].toNat = true) (w : World) :
    Calls Tryd.prog 74 #[.string s] w fun e w' => e = .returned (.string (mkB ((bs s).take (Kx.sgN (bs s))))) ∧ w = w' := by
  have HR := Lib.hid (sg_sgl h0 hd h1)
  have hc := Kx.sg1_cases h1
  have h0I : (0 : Int) < (s.size : Int) := by omega
  have h1I : (1 : Int) ≤ (s.size : Int) := by omega
  clear h1
  by_cases h2 : 1 < s.size
  · have h2I : (2 : Int) ≤ (s.size : Int) := by omega
    obtain ⟨n0, n1, n2, n3, n4, n5, n6⟩ := Kx.dbl_no (hd h2)
    have p0 := two_no h2 n0
    have p1 := two_no h2 n1
    have p2 := two_no h2 n2
    have p3 := two_no h2 n3
    have p4 := two_no h2 n4
    have p5 := two_no h2 n5
    have p6 := two_no h2 n6
    clear n0 n1 n2 n3 n4 n5 n6 hd
    rcases hc with e | e | e | e | e | e | e | e | e | e | e | e | e | e | e | e | e | e | e | e
    all_goals
      have eI : ((s[0].toNat : Nat) : Int) = _ := congrArg (fun n : Nat => (n : Int)) e
      clear e
      go_enter Tryd.func74, Tryd.ntmps74
      go_wp2_with fail
      go_ret
      exact ⟨ret_str HR.out, rfl⟩
  · have h2I : ¬ (2 : Int) ≤ (s.size : Int) := by omega
    clear hd
    rcases hc with e | e | e | e | e | e | e | e | e | e | e | e | e | e | e | e | e | e | e | e
    all_goals
      have eI : ((s[0].toNat : Nat) : Int) = _ := congrArg (fun n : Nat => (n : Int)) e
      clear e
      go_enter Tryd.func74, Tryd.ntmps74
      go_wp2_with fail
      go_ret
      exact ⟨ret_str HR.out, rfl⟩

set_option maxRecDepth 100000 in
set_option maxHeartbeats 8000000 in
theorem sign_none (s : ByteArray) (hs : s.size ≤ 1000000) (h0 : 0 < s.size) (hd : ∀ h2 : 1 < s.size, Kx.dbl.contains (s[0], s[1]) = false) (h1 : Kx.sg1 s[0].toNat = false) (w : World) :
    Calls Tryd.prog 74 #[.string s] w fun e w' => e = .returned (.string (mkB ((bs s).take (Kx.sgN (bs s))))) ∧ w = w' := by
  have HR := Lib.hid (sg_none h0 hd h1)
  have h0I : (0 : Int) < (s.size : Int) := by omega
  obtain ⟨m0, m1, m2, m3, m4, m5, m6, m7, m8, m9, m10, m11, m12, m13, m14, m15, m16, m17, m18, m19⟩ := Kx.sg1_no h1
  have q0 := no_b m0
  have q1 := no_b m1
  have q2 := no_b m2
  have q3 := no_b m3
  have q4 := no_b m4
  have q5 := no_b m5
  have q6 := no_b m6
  have q7 := no_b m7
  have q8 := no_b m8
  have q9 := no_b m9
  have q10 := no_b m10
  have q11 := no_b m11
  have q12 := no_b m12
  have q13 := no_b m13
  have q14 := no_b m14
  have q15 := no_b m15
  have q16 := no_b m16
  have q17 := no_b m17
  have q18 := no_b m18
  have q19 := no_b m19
  clear m0 m1 m2 m3 m4 m5 m6 m7 m8 m9 m10 m11 m12 m13 m14 m15 m16 m17 m18 m19 h1
  by_cases h2 : 1 < s.size
  · have h2I : (2 : Int) ≤ (s.size : Int) := by omega
    obtain ⟨n0, n1, n2, n3, n4, n5, n6⟩ := Kx.dbl_no (hd h2)
    have p0 := two_no h2 n0
    have p1 := two_no h2 n1
    have p2 := two_no h2 n2
    have p3 := two_no h2 n3
    have p4 := two_no h2 n4
    have p5 := two_no h2 n5
    have p6 := two_no h2 n6
    clear n0 n1 n2 n3 n4 n5 n6 hd
    go_enter Tryd.func74, Tryd.ntmps74
    go_wp2_with fail
    go_ret
    exact ⟨ret_str HR.out, rfl⟩
  · have h2I : ¬ (2 : Int) ≤ (s.size : Int) := by omega
    clear hd
    go_enter Tryd.func74, Tryd.ntmps74
    go_wp2_with fail
    go_ret
    exact ⟨ret_str HR.out, rfl⟩

theorem sign_any (s : ByteArray) (hs : s.size ≤ 1000000) (h0 : 0 < s.size) (w : World) :
    Calls Tryd.prog 74 #[.string s] w fun e w' => e = .returned (.string (mkB ((bs s).take (Kx.sgN (bs s))))) ∧ w = w' := by
  by_cases h : ∃ h2 : 1 < s.size, Kx.dbl.contains (s[0], s[1]) = true
  · obtain ⟨h1, hd⟩ := h
    exact sign_two s hs h1 hd w
  · have hd : ∀ h2 : 1 < s.size, Kx.dbl.contains (s[0], s[1]) = false := fun h2 => by
      cases q : Kx.dbl.contains (s[0], s[1]) with
      | false => rfl
      | true => exact absurd ⟨h2, q⟩ h
    cases h1 : Kx.sg1 s[0].toNat with
    | true => exact sign_one s hs h0 hd h1 w
    | false => exact sign_none s hs h0 hd h1 w
end Go.Proofs.YtcckocaaoklibaaDoor
