/- Plain laws of the texts of sets: the package's ascending, step by step. -/
import Derived.Test.YtckenemkfegopaaDoorTc
namespace Go.Proofs.YtckenemkfegopaaDoor.Kt
set_option linter.unusedVariables false

theorem ascL_more : ∀ (f g : Nat) (last : Int) (l : List UInt8), l.length < f → l.length < g → ascL f last l = ascL g last l := by
  intro f
  induction f with
  | zero => intro g last l h; omega
  | succ f ih =>
    intro g last l hf hg
    cases g with
    | zero => omega
    | succ g =>
      unfold ascL
      by_cases h : l = []
      · rw [if_pos h, if_pos h]
      · rw [if_neg h, if_neg h]
        have hc := cut_less (sep := [44, 32]) h (by simp)
        cases Lib.atoiAll (Lib.cut l [44, 32]).1 with
        | ok i =>
          dsimp only
          rw [ih g i _ (by omega) (by omega)]
        | «syntax» => rfl
        | range => rfl
/-- what ascending hands back for what is left -/
def ascA (last : Int) (l : List UInt8) : Option (List Int) := ascL (l.length + 1) last l
theorem ascA_nil (last : Int) : ascA last [] = some [] := rfl
theorem ascA_bad {last : Int} {l : List UInt8} (h0 : l ≠ []) (h : ∀ v, Lib.atoiAll (Lib.cut l [44, 32]).1 ≠ .ok v) : ascA last l = none := by
  unfold ascA ascL
  rw [if_neg h0]
  cases hq : Lib.atoiAll (Lib.cut l [44, 32]).1 with
  | ok i => exact absurd hq (h i)
  | «syntax» => rfl
  | range => rfl
theorem ascA_low {last v : Int} {l : List UInt8} (h0 : l ≠ []) (h : Lib.atoiAll (Lib.cut l [44, 32]).1 = .ok v) (hv : v ≤ last) : ascA last l = none := by
  unfold ascA ascL
  rw [if_neg h0, h]
  dsimp only
  rw [if_pos hv]
theorem ascA_ok {last v : Int} {l : List UInt8} (h0 : l ≠ []) (h : Lib.atoiAll (Lib.cut l [44, 32]).1 = .ok v) (hv : ¬ v ≤ last) : ascA last l = (ascA v (Lib.cut l [44, 32]).2.1).map (v :: ·) := by
  have hc := cut_less (sep := [44, 32]) h0 (by simp)
  have e : ascA v (Lib.cut l [44, 32]).2.1 = ascL l.length v (Lib.cut l [44, 32]).2.1 := ascL_more _ _ _ _ (by omega) (by omega)
  rw [e]
  conv => lhs; unfold ascA ascL
  rw [if_neg h0, h]
  dsimp only
  rw [if_neg hv]
theorem ascA_txt {mx : Nat} (hmx : mx < 1000000000000000000) {ms : List Nat} {last : Int} (h : asc mx last ms) : ascA last (pcT ms) = some (ms.map fun m : Nat => (m : Int)) := by
  have hlen : ms.length ≤ (pcT ms).length := by
    cases ms with
    | nil => exact Nat.le_refl _
    | cons m r =>
      show r.length + 1 ≤ (Lib.decDigits m ++ tlT r).length
      have h1 := tl_len r
      have h2 : 0 < (Lib.decDigits m).length := List.length_pos_iff.2 (dec_ne m)
      rw [List.length_append]; omega
  exact asc_txt hmx ms _ last (by omega) h
end Go.Proofs.YtckenemkfegopaaDoor.Kt
