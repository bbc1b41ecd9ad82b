/- Walks: OnesCount64 (a bound), Count, Complement. -/
import Derived.Test.YtcicejmahlobhaaDoorBW5
import Derived.Lib.TrailingZeros
namespace Go.Proofs.YtcicejmahlobhaaDoor.Bs
open Go.RowKit
set_option linter.unusedVariables false

theorem and127 (a : Int) : ∃ n : Nat, n ≤ 127 ∧ bits BinOp.and .i64 a 127 = (n : Int) := by
  refine ⟨(BitVec.ofInt 64 a &&& 127#64).toNat, ?_, ?_⟩
  · rw [BitVec.toNat_and]
    exact Nat.and_le_right
  · have h : (BitVec.ofInt 64 a &&& 127#64).toNat ≤ 127 := by rw [BitVec.toNat_and]; exact Nat.and_le_right
    show IntKind.i64.wrap ((BitVec.ofInt 64 a &&& BitVec.ofInt 64 127).toNat : Int) = _
    rw [show BitVec.ofInt 64 127 = 127#64 from rfl, IntKind.wrap_i64]
    omega

set_option maxRecDepth 100000 in
set_option maxHeartbeats 400000 in
theorem ones_any (x : Nat) (hx : x < 2 ^ 64) (w : World) :
    Calls Tryd.prog 73 #[.int .u64 (x : Int)] w fun e w' => ∃ n : Nat, n ≤ 127 ∧ e = .returned (.int .i64 (n : Int)) ∧ w = w' := by
  go_enter Tryd.func73, Tryd.ntmps73
  go_wp2_with fail
  go_ret
  obtain ⟨n, h1, h2⟩ := and127 _
  exact ⟨n, h1, ret_int h2, rfl⟩

theorem co_end {w wr : World} {g b n m : Nat} {vs : List Nat} {u v : Value} (hr : WBlk wr g vs) (hg : b < g) (hb : Below w.heap.size w wr) (hm : vs.length = m) (hlt : ∀ x ∈ vs, x < 2 ^ 64) (hbw : w.heap.size ≤ b) :
    SetRes n vs w (.returned (.tuple #[setV (n : Int) (some ⟨g, 0, none⟩) m m, .int .i64 0])) ((wr.setCell ⟨b, 0, none⟩ u).setCell ⟨b, 1, none⟩ v) := by
  have hrow := (hr.far (p := ⟨b, 0, none⟩) (by simp; omega) u).far (p := ⟨b, 1, none⟩) (by simp; omega) v
  exact ⟨some ⟨g, 0, none⟩, m, by rw [hm], hrow.words hrow.lt hlt, (hb.setCell (p := ⟨b, 0, none⟩) hbw _).setCell (p := ⟨b, 1, none⟩) hbw _⟩

end Go.Proofs.YtcicejmahlobhaaDoor.Bs
