/- From a row to a walk: an argument of thirteen bytes. -/
import Derived.Test.YtmemkcaikajnnaaGreatDoorLawRow4
import Derived.Test.YtmemkcaikajnnaaGreatDoorLawInverse
namespace Go.Proofs.YtmemkcaikajnnaaGreatDoor
open Go.ChangeShapes Go.WideShapes Go.ChangeAt Go.RowKit
set_option linter.unusedVariables false

theorem okWide_arr {P : Program} {w : World} {r : Reach} {base n : Nat} {t e : TypeId} {v : Value} (ht : P.underlying t = some (.array n e)) (h : Value.okWide P w r base t v) : ∃ cs, v = .agg cs ∧ cs.size = P.cellsOf t := by
  simp only [Value.okWide, ht] at h
  obtain ⟨cs, h1, h2, _⟩ := h
  exact ⟨cs, h1, h2⟩
theorem cells13 : Tryz.prog.cellsOf 31 = 13 := by kernel_rfl
theorem trn_get (us : Nat → Nat) {i : Nat} (h : i < 13) : (trn us)[i]? = some (.int .u8 (us i : Int)) :=
  match i, h with
  | 0, _ => rfl
  | 1, _ => rfl
  | 2, _ => rfl
  | 3, _ => rfl
  | 4, _ => rfl
  | 5, _ => rfl
  | 6, _ => rfl
  | 7, _ => rfl
  | 8, _ => rfl
  | 9, _ => rfl
  | 10, _ => rfl
  | 11, _ => rfl
  | 12, _ => rfl
  | n + 13, h => absurd h (by omega)
/-- the number that a value holds -/
def numOf : Option Value → Nat
  | some (.int _ z) => z.toNat
  | _ => 0
section
variable {H : Type} {enc : TypeId × Value → H} {W : World}
set_option maxRecDepth 100000 in
/-- an argument that is thirteen bytes -/
theorem open_turn {base : Nat} {v : Value} {d : DataW H} {p : List MemPlace} (hv : Value.okWide Tryz.prog W .any base 31 v) (h : DataW.Trod enc Tryz.prog W 0 (fun _ => true) true 31 v d p) :
    ∃ us : Nat → Nat, v = .agg (trn us) ∧ ∀ i, i < 13 → us i < 256 := by
  obtain ⟨cs, rfl, hsz⟩ := okWide_arr Tryz.underlying31 hv
  rw [cells13] at hsz
  obtain ⟨fuel, hf⟩ := h
  obtain ⟨xs, m, -, -, hl, hxl, hg⟩ := DataW.trod_array Tryz.underlying31 hf
  rw [cellsU8] at hg
  have hz : ∀ i, i < 13 → ∃ z : Int, cs[i]? = some (.int .u8 z) ∧ 0 ≤ z ∧ z < 256 := by
    intro i hi
    have g := hg i hi
    rw [List.getElem?_eq_getElem (by omega)] at g
    obtain ⟨z, e, -, wz⟩ := DataW.trod_int Tryz.underlying5 g
    have h2 := congrArg (·[0]?) e
    refine ⟨z, ?_, ?_⟩
    · have h1 : (Value.agg cs).cells.toList = cs.toList := rfl
      rw [h1, Nat.mul_one] at h2
      simpa [List.getElem?_take, List.getElem?_drop] using h2
    · have : 0 ≤ z ∧ z ≤ 255 := by simpa [Lit.wf, IntKind.min, IntKind.max, IntKind.signed, IntKind.bits] using wz
      omega
  have hu : ∀ i, i < 13 → cs[i]? = some (.int .u8 (numOf cs[i]? : Int)) ∧ numOf cs[i]? < 256 := by
    intro i hi
    obtain ⟨z, e, h0, h1⟩ := hz i hi
    rw [e]
    show some (Value.int .u8 z) = some (.int .u8 ((z.toNat : Nat) : Int)) ∧ z.toNat < 256
    exact ⟨by rw [Int.toNat_of_nonneg h0], by omega⟩
  refine ⟨fun i => numOf cs[i]?, ?_, fun i hi => (hu i hi).2⟩
  congr 1
  apply Array.ext_getElem?
  intro i
  by_cases hi : i < 13
  · rw [trn_get (fun i => numOf cs[i]?) hi]
    exact (hu i hi).1
  · rw [Array.getElem?_eq_none (by rw [hsz]; omega), Array.getElem?_eq_none (show 13 ≤ i by omega)]
end
end Go.Proofs.YtmemkcaikajnnaaGreatDoor
