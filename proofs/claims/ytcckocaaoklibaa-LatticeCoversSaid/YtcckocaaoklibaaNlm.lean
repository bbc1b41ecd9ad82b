/- Lattices as plain relations: the laws of joins and meets. -/
import Derived.Test.YtcckocaaoklibaaNe
namespace Go.Proofs.Ytcckocaaoklibaa.Kl
set_option linter.unusedVariables false

/-- the join's number -/
def J (L : Nat → Nat → Bool) (n a b : Nat) : Nat := num (jn L n a b)
section
variable {L : Nat → Nat → Bool} {n a b c : Nat}
theorem Lat.J_some (h : Lat L n) (ha : a < n) (hb : b < n) : jn L n a b = some (J L n a b) := by
  obtain ⟨c, hc, _⟩ := h.jn_get ha hb
  unfold J; rw [hc]; rfl
theorem Lat.J_spec (h : Lat L n) (ha : a < n) (hb : b < n) : J L n a b < n ∧ ∀ d, d < n → L (J L n a b) d = (L a d && L b d) := by
  obtain ⟨c, hc, h1, h2⟩ := h.jn_get ha hb
  unfold J; rw [hc]; exact ⟨h1, h2⟩
theorem Lat.J_lt (h : Lat L n) (ha : a < n) (hb : b < n) : J L n a b < n := (h.J_spec ha hb).1
theorem Lat.J_is (h : Lat L n) (ha : a < n) (hb : b < n) (hc : c < n) (e : ∀ d, d < n → L c d = (L a d && L b d)) : J L n a b = c := by
  unfold J; rw [h.jn_is ha hb hc e]; rfl
theorem J_comm (L : Nat → Nat → Bool) (n a b : Nat) : J L n a b = J L n b a := by unfold J; rw [jn_comm]
theorem Lat.J_idem (h : Lat L n) (ha : a < n) : J L n a a = a := h.J_is ha ha ha fun d _ => by rw [Bool.and_self]
theorem Lat.J_assoc (h : Lat L n) (ha : a < n) (hb : b < n) (hc : c < n) : J L n (J L n a b) c = J L n a (J L n b c) := by
  refine h.J_is (h.J_lt ha hb) hc (h.J_lt ha (h.J_lt hb hc)) fun d hd => ?_
  rw [(h.J_spec ha (h.J_lt hb hc)).2 d hd, (h.J_spec hb hc).2 d hd, (h.J_spec ha hb).2 d hd, Bool.and_assoc]
theorem Lat.J_le (h : Lat L n) (ha : a < n) (hb : b < n) : (J L n a b = b) ↔ L a b = true := by
  constructor
  · intro e
    have := (h.J_spec ha hb).2 b hb
    rw [e, h.pre.refl b, Bool.and_true] at this
    exact this.symm
  · intro e
    refine h.J_is ha hb hb fun d hd => ?_
    cases q : L b d with
    | false => rw [Bool.and_false]
    | true => rw [h.pre.trans a b d hb e q]; rfl
/-- the meet -/
theorem Lat.M_lo (h : Lat L n) (ha : a < n) (hb : b < n) : L (J (flip L) n a b) a = true := by
  have := (h.flip_.J_spec ha hb).2 (J (flip L) n a b) (h.flip_.J_lt ha hb)
  unfold flip at this
  rw [h.pre.refl] at this
  have h2 := this.symm
  rw [Bool.and_eq_true] at h2
  exact h2.1
theorem Lat.J_up (h : Lat L n) (ha : a < n) (hb : b < n) : L a (J L n a b) = true := h.flip_.M_lo ha hb
theorem Lat.J_M (h : Lat L n) (ha : a < n) (hb : b < n) : J L n a (J (flip L) n a b) = a := by
  rw [J_comm]
  exact (h.J_le (h.flip_.J_lt ha hb) ha).2 (h.M_lo ha hb)
theorem Lat.M_J (h : Lat L n) (ha : a < n) (hb : b < n) : J (flip L) n a (J L n a b) = a := h.flip_.J_M ha hb
theorem Lat.M_le (h : Lat L n) (ha : a < n) (hb : b < n) : (J (flip L) n a b = a) ↔ L a b = true := by
  rw [J_comm]
  exact h.flip_.J_le hb ha
end
end Go.Proofs.Ytcckocaaoklibaa.Kl
namespace Go.Proofs.Ytcckocaaoklibaa
open Go.RowKit Go.Maps
set_option linter.unusedVariables false

/-- a call at two levels that hands back a level -/
def CJ (f : FuncId) (lb : Nat) (ns : List ByteArray) (L : Nat → Nat → Bool) (i j k : Nat) : Prop :=
  ∀ W : World, PLat W lb ns L → Calls Try.prog f #[.pointer (some ⟨lb, 0, none⟩), .int .i64 (i : Int), .int .i64 (j : Int)] W fun e w' => e = .returned (.int .i64 (k : Int)) ∧ Below W.heap.size W w'
/-- a call at two levels that tells whether one lies below the other -/
def CB (lb : Nat) (ns : List ByteArray) (L : Nat → Nat → Bool) (i j : Nat) (z : Bool) : Prop :=
  ∀ W : World, PLat W lb ns L → Calls Try.prog 11 #[.pointer (some ⟨lb, 0, none⟩), .int .i64 (i : Int), .int .i64 (j : Int)] W fun e w' => e = .returned (.bool z) ∧ Below W.heap.size W w'
section
variable {lb : Nat} {ns : List ByteArray} {L : Nat → Nat → Bool} {i j k : Nat}
theorem lbelow_ok (hn : ns.length ≤ 12) (hi : i < ns.length) (hj : j < ns.length) {z : Bool} (e : L i j = z) : CB lb ns L i j z := by
  intro W hW
  obtain ⟨An', cn', M, Aa, ca, Ab, cb', hP, _, _⟩ := hW
  refine (below_ok hn (i : Int) (j : Int) W hP).mono ?_
  rintro e w1 ⟨rfl, rfl⟩
  refine ⟨?_, Below.refl _ _⟩
  unfold beB
  rw [show lvB (i : Int) ns.length = true by simp [lvB]; omega, show lvB (j : Int) ns.length = true by simp [lvB]; omega, Int.toNat_natCast, Int.toNat_natCast, e]; rfl
end
end Go.Proofs.Ytcckocaaoklibaa
