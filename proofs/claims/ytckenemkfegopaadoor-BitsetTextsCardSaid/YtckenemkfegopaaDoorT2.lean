/- Walks: the reference's number. -/
import Derived.Test.YtckenemkfegopaaDoorT1
import Derived.Test.YtckenemkfegopaaDoorTn
namespace Go.Proofs.YtckenemkfegopaaDoor
open Go.RowKit
set_option linter.unusedVariables false

def bs (s : ByteArray) : List UInt8 := s.data.toList
theorem bs_length (s : ByteArray) : (bs s).length = s.size := by show s.data.toList.length = s.data.size; simp
theorem drop_at {s : ByteArray} {k : Nat} (h : k < s.size) : (bs s).drop k = s[k] :: (bs s).drop (k + 1) := by
  rw [List.drop_eq_getElem_cons (by rw [bs_length]; exact h)]; rfl
theorem is_i {c : UInt8} {n : Int} (h : ((c.toNat : Nat) : Int) = n) : (((c.toNat : Nat) : Int) == n) = true := by rw [h]; exact beq_self_eq_true _
theorem no_i {c : UInt8} {n : Int} (h : ((c.toNat : Nat) : Int) ≠ n) : (((c.toNat : Nat) : Int) == n) = false := by rw [beq_eq_false_iff_ne]; exact h
/-- what number hands back -/
def numV (from_ : Nat) : Option (Nat × Nat) → Value
  | some (n, k) => .tuple #[.int .i64 (n : Int), .int .i64 ((from_ + k : Nat) : Int)]
  | none => .tuple #[.int .i64 0, .int .i64 (-1)]
set_option maxRecDepth 100000 in
set_option maxHeartbeats 1000000 in
theorem rnumber_any (s : ByteArray) (from_ : Nat) (hs : s.size ≤ 100000) (hf : from_ ≤ s.size) (w : World) :
    Calls Tryd.prog 101 #[.string s, .int .i64 (from_ : Int)] w fun e w' => e = .returned (numV from_ (Kt.numR 4096 ((bs s).drop from_))) ∧ ∃ q, w' = w.drewN q := by
  go_enter Tryd.func101, Tryd.ntmps101
  go_wp2_with fail
  go_loopw [1, 6] (fun av nv wr => ∃ (m q : Nat) (a : List UInt8), m ≤ s.size ∧ a.length + from_ = m ∧ av = .int .i64 (m : Int) ∧ nv = .int .i64 ((Kt.valN a : Nat) : Int) ∧ wr = w.drewN q ∧ Kt.valN a ≤ 4096 ∧
      Hid (a.all Kt.digC = true ∧ (bs s).drop from_ = a ++ (bs s).drop m ∧ ¬ (1 < a.length ∧ a.head? = some 48))) (fun av _ _ => s.size - (intOf av).toNat)
  case atStart => exact ⟨from_, 0, [], hf, by simp, rfl, rfl, rfl, by decide, Lib.hid ⟨rfl, rfl, by simp⟩⟩
  case round =>
    obtain ⟨m, q, a, hm, hal, rfl, rfl, rfl, hva, HI⟩ := hrel
    obtain ⟨i2, i3, i4⟩ := HI.out
    by_cases hlt : m < s.size
    · have hltI : (m : Int) < (s.size : Int) := by omega
      have hd := drop_at hlt
      have hfl : from_ < s.size := by omega
      have hflI : (from_ : Int) < (s.size : Int) := by omega
      have hd0 := drop_at hfl
      by_cases hdg : Kt.digC s[m] = true
      · have hdg2 := hdg
        unfold Kt.digC at hdg2
        simp at hdg2
        have hg1 : (48 : Int) ≤ ((s[m].toNat : Nat) : Int) := by omega
        have hg2 : ((s[m].toNat : Nat) : Int) ≤ 57 := by omega
        have ha' : (a ++ [s[m]]).all Kt.digC = true := by rw [List.all_append, i2]; simp [hdg]
        have hl' : (bs s).drop from_ = (a ++ [s[m]]) ++ (bs s).drop (m + 1) := by rw [i3, hd]; simp
        have hv' := Kt.val_snoc a s[m]
        have hh : (a ++ [s[m]]).head? = some s[from_] := by
          have e := congrArg List.head? hl'
          rw [hd0] at e
          cases a with
          | nil => exact e.symm
          | cons x a => exact e.symm
        have hla : (a ++ [s[m]]).length = a.length + 1 := by simp
        have hV2 : ((Kt.valN (a ++ [s[m]]) : Nat) : Int) = 10 * ((Kt.valN a : Nat) : Int) + ((s[m].toNat : Nat) : Int) - 48 := by omega
        by_cases big : 4096 < Kt.valN (a ++ [s[m]])
        · have HR : Hid (Kt.numR 4096 ((bs s).drop from_) = none) := Lib.hid (by rw [hl']; exact Kt.numR_big ha' big)
          have hbI : (4096 : Int) < 10 * ((Kt.valN a : Nat) : Int) + ((s[m].toNat : Nat) : Int) - 48 := by omega
          clear ha' hl' hv' hh hla hV2 big HI i2 i3 i4 hd hd0 hdg hdg2
          revert hva hbI
          generalize Kt.valN a = v
          intro hva hbI
          go_wp2_with fail
          go_ret2
          exact ⟨by rw [HR.out]; rfl, q, rfl⟩
        · have hnb : ¬ (4096 : Int) < 10 * ((Kt.valN a : Nat) : Int) + ((s[m].toNat : Nat) : Int) - 48 := by omega
          have hVle : Kt.valN (a ++ [s[m]]) ≤ 4096 := by omega
          by_cases hz : 1 < (a ++ [s[m]]).length ∧ s[from_].toNat = 48
          · have HR : Hid (Kt.numR 4096 ((bs s).drop from_) = none) := Lib.hid (by
              rw [hl']
              exact Kt.numR_zero ha' hz.1 (by rw [hh, UInt8.toNat_inj.1 (show s[from_].toNat = (48 : UInt8).toNat from hz.2)]))
            have hk1 : (1 : Int) < (m : Int) + 1 - (from_ : Int) := by have := hz.1; omega
            have hq1 : (((s[from_].toNat : Nat) : Int) == 48) = true := is_i (by omega)
            clear ha' hl' hv' hh hla hV2 big HI i2 i3 i4 hd hd0 hdg hdg2 hz hVle
            revert hva hnb
            generalize Kt.valN a = v
            intro hva hnb
            go_wp2_with fail
            go_ret2
            exact ⟨by rw [HR.out]; rfl, q, rfl⟩
          · have HI2 : Hid ((a ++ [s[m]]).all Kt.digC = true ∧ (bs s).drop from_ = (a ++ [s[m]]) ++ (bs s).drop (m + 1) ∧ ¬ (1 < (a ++ [s[m]]).length ∧ (a ++ [s[m]]).head? = some 48)) := Lib.hid ⟨ha', hl', fun ⟨h1, h2⟩ => hz ⟨h1, by
              rw [hh] at h2
              injection h2 with h2
              rw [h2]; rfl⟩⟩
            by_cases hk : 1 < m + 1 - from_
            · have hk1 : (1 : Int) < (m : Int) + 1 - (from_ : Int) := by omega
              have hq1 : (((s[from_].toNat : Nat) : Int) == 48) = false := no_i (fun e => hz ⟨by omega, by omega⟩)
              clear ha' hl' hv' hh big HI i2 i3 i4 hd hd0 hdg hdg2 hz
              revert hva hnb hV2 hVle HI2 hla
              generalize a ++ [s[m]] = a2
              generalize Kt.valN a = v
              intro hva hla hV2 hnb hVle HI2
              go_wp2_with fail
              go_roundw
              case rel => exact ⟨m + 1, q, a2, by omega, by omega, by go_num, by rw [hV2], rfl, hVle, HI2⟩
              case measure => simp [intOf]; omega
            · have hk1 : ¬ (1 : Int) < (m : Int) + 1 - (from_ : Int) := by omega
              clear ha' hl' hv' hh big HI i2 i3 i4 hd hd0 hdg hdg2 hz
              revert hva hnb hV2 hVle HI2 hla
              generalize a ++ [s[m]] = a2
              generalize Kt.valN a = v
              intro hva hla hV2 hnb hVle HI2
              go_wp2_with fail
              go_roundw
              case rel => exact ⟨m + 1, q, a2, by omega, by omega, by go_num, by rw [hV2], rfl, hVle, HI2⟩
              case measure => simp [intOf]; omega
      · have hb : ∀ c r, (bs s).drop m = c :: r → Kt.digC c = false := fun c r e => by
          rw [hd] at e
          injection e with e _
          rw [← e]; simpa using hdg
        have HE : (a.length = 0 → Kt.numR 4096 ((bs s).drop from_) = none) ∧ (¬ a.length = 0 → Kt.numR 4096 ((bs s).drop from_) = some (Kt.valN a, a.length)) := by
          refine ⟨fun e => ?_, fun e => ?_⟩
          · have e2 := List.eq_nil_of_length_eq_zero e
            rw [i3, e2]; exact Kt.numR_none hb
          · rw [i3]; exact Kt.numR_end i2 (fun e2 => e (by rw [e2]; rfl)) hva i4 hb
        by_cases hg : s[m].toNat < 48
        · have hg1 : ¬ (48 : Int) ≤ ((s[m].toNat : Nat) : Int) := by omega
          clear hd hd0 hb hdg
          by_cases ha0 : a.length = 0
          · have hb7 : ((m : Int) == (from_ : Int)) = true := by rw [beq_iff_eq]; omega
            have HR := Lib.hid (HE.1 ha0)
            clear HE i2 i3 i4 HI
            revert hva
            generalize Kt.valN a = v
            intro hva
            go_wp2_with fail
            go_ret2
            exact ⟨by rw [HR.out]; rfl, q, rfl⟩
          · have hb7 : ((m : Int) == (from_ : Int)) = false := by rw [beq_eq_false_iff_ne]; omega
            have HR := Lib.hid (HE.2 ha0)
            rw [show Kt.numR 4096 ((bs s).drop from_) = Kt.numR 4096 ((bs s).drop from_) from rfl] at HR
            clear HE i2 i3 i4 HI
            revert hva HR
            generalize Kt.valN a = v
            intro hva HR
            go_wp2_with fail
            go_ret2
            refine ⟨?_, q, rfl⟩
            rw [HR.out]
            show _ = Ending.returned (.tuple #[.int .i64 (v : Int), .int .i64 ((from_ + a.length : Nat) : Int)])
            rw [show from_ + a.length = m by omega]; rfl
        · have hg1 : (48 : Int) ≤ ((s[m].toNat : Nat) : Int) := by omega
          have hg2 : ¬ ((s[m].toNat : Nat) : Int) ≤ 57 := by
            intro e
            apply hdg
            unfold Kt.digC
            simp; omega
          clear hd hd0 hb hdg
          by_cases ha0 : a.length = 0
          · have hb7 : ((m : Int) == (from_ : Int)) = true := by rw [beq_iff_eq]; omega
            have HR := Lib.hid (HE.1 ha0)
            clear HE i2 i3 i4 HI
            revert hva
            generalize Kt.valN a = v
            intro hva
            go_wp2_with fail
            go_ret2
            exact ⟨by rw [HR.out]; rfl, q, rfl⟩
          · have hb7 : ((m : Int) == (from_ : Int)) = false := by rw [beq_eq_false_iff_ne]; omega
            have HR := Lib.hid (HE.2 ha0)
            rw [show Kt.numR 4096 ((bs s).drop from_) = Kt.numR 4096 ((bs s).drop from_) from rfl] at HR
            clear HE i2 i3 i4 HI
            revert hva HR
            generalize Kt.valN a = v
            intro hva HR
            go_wp2_with fail
            go_ret2
            refine ⟨?_, q, rfl⟩
            rw [HR.out]
            show _ = Ending.returned (.tuple #[.int .i64 (v : Int), .int .i64 ((from_ + a.length : Nat) : Int)])
            rw [show from_ + a.length = m by omega]; rfl
    · obtain rfl : m = s.size := by omega
      have hb : ∀ c r, (bs s).drop s.size = c :: r → Kt.digC c = false := fun c r e => by
        rw [List.drop_of_length_le (by rw [bs_length]; exact Nat.le_refl _)] at e; cases e
      have HE : (a.length = 0 → Kt.numR 4096 ((bs s).drop from_) = none) ∧ (¬ a.length = 0 → Kt.numR 4096 ((bs s).drop from_) = some (Kt.valN a, a.length)) := by
        refine ⟨fun e => ?_, fun e => ?_⟩
        · have e2 := List.eq_nil_of_length_eq_zero e
          rw [i3, e2]; exact Kt.numR_none hb
        · rw [i3]; exact Kt.numR_end i2 (fun e2 => e (by rw [e2]; rfl)) hva i4 hb
      clear hb
      by_cases ha0 : a.length = 0
      · have hb7 : ((s.size : Int) == (from_ : Int)) = true := by rw [beq_iff_eq]; omega
        have HR := Lib.hid (HE.1 ha0)
        clear HE i2 i3 i4 HI
        revert hva
        generalize Kt.valN a = v
        intro hva
        go_wp2_with fail
        go_ret2
        exact ⟨by rw [HR.out]; rfl, q, rfl⟩
      · have hb7 : ((s.size : Int) == (from_ : Int)) = false := by rw [beq_eq_false_iff_ne]; omega
        have HR := Lib.hid (HE.2 ha0)
        rw [show Kt.numR 4096 ((bs s).drop from_) = Kt.numR 4096 ((bs s).drop from_) from rfl] at HR
        clear HE i2 i3 i4 HI
        revert hva HR
        generalize Kt.valN a = v
        intro hva HR
        go_wp2_with fail
        go_ret2
        refine ⟨?_, q, rfl⟩
        rw [HR.out]
        show _ = Ending.returned (.tuple #[.int .i64 (v : Int), .int .i64 ((from_ + a.length : Nat) : Int)])
        rw [show from_ + a.length = s.size by omega]; rfl
end Go.Proofs.YtckenemkfegopaaDoor
