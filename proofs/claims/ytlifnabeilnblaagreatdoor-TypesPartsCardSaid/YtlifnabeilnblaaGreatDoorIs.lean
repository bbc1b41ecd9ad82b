/- Walk: IsName of package lexer. -/
import Derived.Test.YtlifnabeilnblaaGreatDoorW4
namespace Go.Proofs.YtlifnabeilnblaaGreatDoor
open Go.RowKit
set_option linter.unusedVariables false

namespace Kx
def nameB (l : List UInt8) : Bool := match l with
  | [] => false
  | c :: r => letC c && ((c :: r).takeWhile alC == c :: r) && decide ((c :: r).length ≤ 12) && !resB (c :: r)
theorem tw_all {l : List UInt8} (h : (l.takeWhile alC).length = l.length) : l.takeWhile alC = l := by
  have := List.takeWhile_prefix alC (l := l)
  exact this.eq_of_length h
end Kx
theorem name_eq {s : ByteArray} (h : 0 < s.size) : Kx.nameB (bs s) = (Kx.letC s[0] && ((bs s).takeWhile Kx.alC == bs s) && decide (s.size ≤ 12) && !Kx.resB (bs s)) := by
  have hd := drop_at (s := s) (k := 0) h
  rw [List.drop_zero] at hd
  have hl := bs_length s
  rw [← hl]
  generalize (bs s).drop (0 + 1) = r at hd
  generalize bs s = l at *
  subst hd
  rfl
theorem empty_bs {s : ByteArray} (h : s.size = 0) : s = ⟨#[]⟩ := bs_inj (by
  have := bs_length s
  rw [h] at this
  rw [List.eq_nil_of_length_eq_zero this]; rfl)
set_option maxRecDepth 100000 in
set_option maxHeartbeats 1000000 in
theorem isname_any (s : ByteArray) (hs : s.size ≤ 9223372036854775807) (w : World) (hT : SpT w) : Calls Tryz.prog 75 #[.string s] w fun e w' => e = .returned (.bool (Kx.nameB (bs s))) ∧ Below w.heap.size w w' := by
  by_cases h0 : s.size = 0
  · obtain rfl := empty_bs h0
    go_enter Tryz.func75, Tryz.ntmps75
    go_wp2_with fail
    go_ret
    exact ⟨rfl, Below.refl _ _⟩
  have hp0 : 0 < s.size := by omega
  have h0I : (0 : Int) < (s.size : Int) := by omega
  have hne : (s.toList != []) = true := by
    rw [bs_toList, bne_iff_ne]
    intro e
    have := bs_length s
    rw [e] at this
    simp at this; omega
  have hne2 : s.toList ≠ [] := by simpa using hne
  have hne3 : s.toList.isEmpty = false := by simpa using hne2
  have hne4 : (s.toList == []) = false := by simpa using hne2
  have hne5 : s ≠ ⟨#[]⟩ := by rintro rfl; exact hne2 (by rw [bs_toList]; rfl)
  have hne6 : s ≠ ByteArray.empty := hne5
  have HN := Lib.hid (name_eq hp0)
  have hq : ((mkB ((bs s).takeWhile Kx.alC)).toList == s.toList) = ((bs s).takeWhile Kx.alC == bs s) := by rw [bs_toList, bs_toList, bs_mk]
  have hs2 : s.size ≤ 9223372036854775807 := hs
  go_enter Tryz.func75, Tryz.ntmps75
  go_wp2_with fail
  refine (letter_c _ _).mono ?_
  rintro e w1 ⟨rfl, rfl⟩
  cases hc : Kx.letC s[0] with
  | false =>
    go_wp2_with fail
    go_ret
    exact ⟨ret_bool (by rw [HN.out, hc]; rfl), Below.refl _ _⟩
  | true =>
    go_wp2_with fail
    refine (run_any s hs2 _).mono ?_
    rintro e w1 ⟨rfl, rfl⟩
    cases hz : ((bs s).takeWhile Kx.alC == bs s) with
    | false =>
      rw [hz] at hq
      go_wp2_with fail
      go_ret
      exact ⟨ret_bool (by rw [HN.out, hc, hz]; rfl), Below.refl _ _⟩
    | true =>
      rw [hz] at hq
      by_cases h12 : s.size ≤ 12
      · have h12I : (s.size : Int) ≤ 12 := by omega
        go_wp2_with fail
        refine (reserved_any s _ hT).mono ?_
        rintro e w2 ⟨rfl, b⟩
        go_wp2_with fail
        go_ret
        exact ⟨ret_bool (by rw [HN.out, hc, hz, decide_eq_true h12]; rfl), b⟩
      · have h12I : ¬ (s.size : Int) ≤ 12 := by omega
        go_wp2_with fail
        go_ret
        exact ⟨ret_bool (by rw [HN.out, decide_eq_false h12]; simp), Below.refl _ _⟩
end Go.Proofs.YtlifnabeilnblaaGreatDoor
