/- Walks: IsName of the reference of package lexer. -/
import Derived.Test.YtlpnbcdnlbghdaaDoorIs
namespace Go.Proofs.YtlpnbcdnlbghdaaDoor
open Go.RowKit
set_option linter.unusedVariables false

theorem is_i {c : UInt8} {n : Int} (h : ((c.toNat : Nat) : Int) = n) : (((c.toNat : Nat) : Int) == n) = true := by rw [h]; exact beq_self_eq_true _
theorem no_i {c : UInt8} {n : Int} (h : ((c.toNat : Nat) : Int) ≠ n) : (((c.toNat : Nat) : Int) == n) = false := by rw [beq_eq_false_iff_ne]; exact h
/-- the reference's words -/
def wordsS : ByteArray := ⟨#[32, 116, 121, 112, 101, 32, 115, 101, 99, 114, 101, 116, 32, 112, 117, 98, 108, 105, 99, 32, 114, 97, 110, 100, 111, 109, 32, 118, 97, 114, 32, 104, 97, 116, 99, 104, 32, 102, 117, 110, 99, 32, 114, 101, 116, 117, 114, 110, 32, 98, 101, 103, 105, 110, 32, 101, 110, 100, 32, 98, 111, 111, 108, 32, 105, 110, 116, 32, 97, 114, 114, 97, 121, 32, 111, 102, 32, 114, 101, 99, 111, 114, 100, 32, 116, 114, 117, 101, 32, 102, 97, 108, 115, 101, 32, 99, 97, 108, 108, 32, 114, 101, 108, 101, 97, 115, 101, 32, 111, 117, 116, 112, 117, 116, 32, 119, 97, 105, 116, 32, 105, 102, 32, 101, 108, 115, 101, 32, 119, 104, 105, 108, 101, 32, 108, 105, 109, 105, 116, 32, 102, 111, 114, 32, 116, 111, 32, 115, 101, 116, 116, 108, 101, 32, 109, 105, 110, 32, 109, 97, 120, 32]⟩
theorem bs_append (a b : ByteArray) : bs (a ++ b) = bs a ++ bs b := by unfold bs; rw [ByteArray.data_append, Array.toList_append]
namespace Kx
theorem res_to : (resW.all fun w => (List.range 162).any fun k => decide (k + w.length + 2 ≤ 162) && ((((bs wordsS).drop k).take (w.length + 2)) == 32 :: (w ++ [32]))) = true := by decide +kernel
theorem res_from : ((List.range 162).all fun k => ((bs wordsS).drop k).head? != some 32 || (((bs wordsS).drop (k + 1)).takeWhile letC).isEmpty || resW.contains (((bs wordsS).drop (k + 1)).takeWhile letC)) = true := by decide +kernel
theorem res_letters : (resW.all fun w => w.all letC && !w.isEmpty) = true := by decide +kernel
/-- does a word stand at k? -/
def atW (l : List UInt8) (k : Nat) : Prop := ((bs wordsS).drop k).take (l.length + 2) = 32 :: (l ++ [32])
theorem tw_app {l r : List UInt8} {c : UInt8} (h : l.all letC = true) (hc : letC c = false) : (l ++ c :: r).takeWhile letC = l := by
  rw [List.takeWhile_append_of_pos (fun a ha => List.all_eq_true.1 h a ha), List.takeWhile_cons, if_neg (by rw [hc]; decide), List.append_nil]
theorem res_iff {l : List UInt8} (h0 : l ≠ []) (hl : l.all letC = true) : resB l = true ↔ ∃ k, k + l.length + 2 ≤ 162 ∧ atW l k := by
  unfold resB atW
  rw [List.contains_iff_mem]
  constructor
  · intro h
    have := List.all_eq_true.1 res_to l h
    rw [List.any_eq_true] at this
    obtain ⟨k, _, hk⟩ := this
    rw [Bool.and_eq_true, decide_eq_true_eq, beq_iff_eq] at hk
    exact ⟨k, hk⟩
  · rintro ⟨k, hk, he⟩
    have hlen : (bs wordsS).length = 162 := by decide +kernel
    have hc := List.all_eq_true.1 res_from k (List.mem_range.2 (by omega))
    have hd : (bs wordsS).drop k = (bs wordsS)[k]'(by omega) :: (bs wordsS).drop (k + 1) := List.drop_eq_getElem_cons (by omega)
    rw [hd] at he hc
    rw [show l.length + 2 = (l.length + 1) + 1 from rfl, List.take_succ_cons] at he
    injection he with e1 e2
    have e3 : (bs wordsS).drop (k + 1) = l ++ 32 :: ((bs wordsS).drop (k + 1)).drop (l.length + 1) := by
      conv => lhs; rw [← List.take_append_drop (l.length + 1) ((bs wordsS).drop (k + 1)), e2]
      simp
    have e4 : ((bs wordsS).drop (k + 1)).takeWhile letC = l := by rw [e3]; exact tw_app hl (by decide)
    rw [e4, e1] at hc
    simp only [List.head?_cons, bne_self_eq_false, Bool.false_or, Bool.or_eq_true, List.isEmpty_iff, List.contains_iff_mem] at hc
    rcases hc with hc | hc
    · exact absurd hc h0
    · exact hc
theorem res_no {l : List UInt8} (h : l = [] ∨ l.all letC = false) : resB l = false := by
  cases q : resB l with
  | false => rfl
  | true =>
    unfold resB at q
    rw [List.contains_iff_mem] at q
    have := List.all_eq_true.1 res_letters l q
    rw [Bool.and_eq_true] at this
    rcases h with rfl | h
    · simp at this
    · rw [h] at this; simp at this
end Kx
theorem word_eq (s : ByteArray) (k : Nat) : ((wordsS.extract k (k + s.size + 2)).toList == ((⟨#[32]⟩ : ByteArray) ++ s ++ ⟨#[32]⟩).toList) = true ↔ Kx.atW (bs s) k := by
  rw [beq_iff_eq, bs_toList, bs_toList, bs_append, bs_append, bs_extract]
  unfold Kx.atW
  rw [bs_length, List.drop_take, show k + s.size + 2 - k = s.size + 2 by omega]
  exact Iff.rfl

end Go.Proofs.YtlpnbcdnlbghdaaDoor
