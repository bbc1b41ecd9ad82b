/- Walks: the package's isNumber (strings.Trim at the ten digits). -/
import Derived.Test.YtmhfdmidaheoeaaDoorP1
import Derived.Test.YtmhfdmidaheoeaaDoorP0
import Derived.Test.YtmhfdmidaheoeaaDoorShelf
import Derived.Shelf.Strings.SlTrimAscii
namespace Go.Proofs.YtmhfdmidaheoeaaDoor
open Go.RowKit
set_option linter.unusedVariables false

def bs (s : ByteArray) : List UInt8 := s.data.toList
def mkB (l : List UInt8) : ByteArray := ⟨l.toArray⟩
theorem bs_mk (l : List UInt8) : bs (mkB l) = l := by simp [bs, mkB]
theorem mk_bs (s : ByteArray) : mkB (bs s) = s := by simp [bs, mkB]
theorem bs_inj {s t : ByteArray} (h : bs s = bs t) : s = t := by rw [← mk_bs s, ← mk_bs t, h]
theorem bs_toList (s : ByteArray) : s.toList = bs s := ByteArray.toList_eq s
theorem bs_length (s : ByteArray) : (bs s).length = s.size := by show s.data.toList.length = s.data.size; simp
theorem mk_size (l : List UInt8) : (mkB l).size = l.length := by show l.toArray.size = l.length; simp
theorem drop_at {s : ByteArray} {k : Nat} (h : k < s.size) : (bs s).drop k = s[k] :: (bs s).drop (k + 1) := by
  rw [List.drop_eq_getElem_cons (by rw [bs_length]; exact h)]; rfl
theorem empty_yes {t : List UInt8} (h : t = []) : (mkB t).toList.isEmpty = true := by rw [bs_toList, bs_mk, h]; rfl
theorem empty_no {t : List UInt8} (h : t ≠ []) : (mkB t).toList.isEmpty = false := by rw [bs_toList, bs_mk]; cases t with | nil => exact absurd rfl h | cons _ _ => rfl

theorem trim_digs (s : ByteArray) (hs : s.size ≤ 1000000) (w : World) :
    Calls Tryd.prog 81 #[.string s, .string ⟨#[48, 49, 50, 51, 52, 53, 54, 55, 56, 57]⟩] w fun e w' => e = .returned (.string (mkB (Lib.trimS (bs s) Kt.digs))) ∧ Below w.heap.size w w' := by
  by_cases h0 : s.size = 0
  · refine (Any.strings_Trim_empty Tryd.lays160 s _ w (.inl h0)).mono ?_
    rintro e w' ⟨rfl, rfl⟩
    have e0 : bs s = [] := List.eq_nil_of_length_eq_zero (by rw [bs_length]; exact h0)
    refine ⟨?_, Below.refl _ _⟩
    have e1 : s = mkB (Lib.trimS (bs s) Kt.digs) := bs_inj (by rw [bs_mk, e0]; rfl)
    rw [← e1]
  · refine (Any.strings_Trim_set Tryd.lays160 (fun _ => by kernel_rfl) (by kernel_rfl) s _ w (by decide) (by omega) (by omega) (by decide) (by
      intro j b hj
      have h : ∀ x ∈ ([48, 49, 50, 51, 52, 53, 54, 55, 56, 57] : List UInt8), x.toNat < 128 := by decide
      exact h b (List.mem_of_getElem? hj))).mono ?_
    rintro e w' ⟨rfl, q, rfl⟩
    refine ⟨rfl, ?_⟩
    have hb := ((Below.refl w.heap.size w).alloc (Nat.le_refl _) (.cells (Lib.setCells [48, 49, 50, 51, 52, 53, 54, 55, 56, 57]) (Tryd.lays160_ren.t 116))).alloc (by simp) (.cells (Lib.setCells [48, 49, 50, 51, 52, 53, 54, 55, 56, 57]) (Tryd.lays160_ren.t 116))
    exact ⟨hb.os, hb.tape, hb.output, hb.size, hb.block⟩

set_option maxRecDepth 100000 in
set_option maxHeartbeats 1000000 in
theorem isNumber_any (s : ByteArray) (hs : s.size ≤ 1000000) (w : World) :
    Calls Tryd.prog 51 #[.string s] w fun e w' => e = .returned (.bool (Kt.isNum (bs s))) ∧ Below w.heap.size w w' := by
  obtain ⟨T, hT⟩ : ∃ T, Hid (T = Lib.trimS (bs s) Kt.digs) := ⟨_, Lib.hid rfl⟩
  have ht : ∀ w, Calls Tryd.prog 81 #[.string s, .string ⟨#[48, 49, 50, 51, 52, 53, 54, 55, 56, 57]⟩] w fun e w' => e = .returned (.string (mkB T)) ∧ Below w.heap.size w w' := fun w => by rw [hT.out]; exact trim_digs s hs w
  have HT := Lib.hid ht
  clear ht
  by_cases hall : (bs s).all Kt.digC = true
  · have hE := empty_yes (t := T) (by rw [hT.out]; exact (Kt.trim_all _).2 hall)
    by_cases h0 : s.size = 0
    · have e0 : bs s = [] := List.eq_nil_of_length_eq_zero (by rw [bs_length]; exact h0)
      have q1 : s.toList.isEmpty = true := by rw [bs_toList, e0]; rfl
      have q2 : (s.toList == [48]) = false := by rw [bs_toList, e0]; rfl
      have HR : Hid (Kt.isNum (bs s) = false) := Lib.hid (by rw [e0]; rfl)
      clear hall h0 e0
      go_enter Tryd.func51, Tryd.ntmps51
      go_wp2_with (go_at_call 81; refine (HT.out _).mono ?_; rintro e w' ⟨rfl, hb⟩)
      go_ret
      exact ⟨by rw [HR.out]; rfl, hb⟩
    · have h1 : 0 < s.size := by omega
      have hd := drop_at h1
      rw [List.drop_zero] at hd
      have q1 : s.toList.isEmpty = false := by rw [bs_toList, hd]; rfl
      by_cases h48 : s[0].toNat = 48
      · have e48 : s[0] = 48 := UInt8.toNat_inj.1 h48
        have q3 : (((s[0].toNat : Nat) : Int) != 48) = false := by rw [h48]; rfl
        by_cases hone : s.size = 1
        · have e1 : bs s = [48] := by
            have hl := bs_length s
            rw [hd] at hl ⊢
            rw [e48, List.eq_nil_of_length_eq_zero (l := (bs s).drop 1) (by simp at hl; simp; omega)]
          have q2 : (s.toList == [48]) = true := by rw [bs_toList, e1]; rfl
          have HR : Hid (Kt.isNum (bs s) = true) := Lib.hid (by rw [e1]; rfl)
          clear hall hone e1 hd e48
          go_enter Tryd.func51, Tryd.ntmps51
          go_wp2_with (go_at_call 81; refine (HT.out _).mono ?_; rintro e w' ⟨rfl, hb⟩)
          go_ret
          exact ⟨by rw [HR.out]; rfl, hb⟩
        · have e1 : (bs s == [48]) = false := by
            rw [beq_eq_false_iff_ne]
            intro e
            have hl := bs_length s
            rw [e] at hl
            exact hone hl.symm
          have q2 : (s.toList == [48]) = false := by rw [bs_toList]; exact e1
          have HR : Hid (Kt.isNum (bs s) = false) := Lib.hid (by
            unfold Kt.isNum
            rw [e1, hd, e48]
            simp)
          clear hall hone e1 hd e48
          go_enter Tryd.func51, Tryd.ntmps51
          go_wp2_with (go_at_call 81; refine (HT.out _).mono ?_; rintro e w' ⟨rfl, hb⟩)
          go_ret
          exact ⟨by rw [HR.out]; rfl, hb⟩
      · have q3 : (((s[0].toNat : Nat) : Int) != 48) = true := by rw [bne_iff_ne]; omega
        have h49 : s[0] ≠ 48 := fun e => h48 (by rw [e]; rfl)
        have e1 : (bs s == [48]) = false := by
          rw [beq_eq_false_iff_ne, hd]
          intro e
          injection e with e
          exact h49 e
        have q2 : (s.toList == [48]) = false := by rw [bs_toList]; exact e1
        have HR : Hid (Kt.isNum (bs s) = true) := Lib.hid (by
          unfold Kt.isNum
          rw [e1, hall, hd]
          simp [h49])
        clear hall e1 hd h48 h49
        go_enter Tryd.func51, Tryd.ntmps51
        go_wp2_with (go_at_call 81; refine (HT.out _).mono ?_; rintro e w' ⟨rfl, hb⟩)
        go_ret
        exact ⟨by rw [HR.out]; rfl, hb⟩
  · have hE := empty_no (t := T) (by rw [hT.out]; exact fun e => hall ((Kt.trim_all _).1 e))
    have HR : Hid (Kt.isNum (bs s) = false) := Lib.hid (by unfold Kt.isNum; rw [Bool.not_eq_true] at hall; rw [hall]; rfl)
    clear hall
    go_enter Tryd.func51, Tryd.ntmps51
    go_wp2_with (go_at_call 81; refine (HT.out _).mono ?_; rintro e w' ⟨rfl, hb⟩)
    go_ret
    exact ⟨by rw [HR.out]; rfl, hb⟩
end Go.Proofs.YtmhfdmidaheoeaaDoor
