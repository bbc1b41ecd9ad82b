/- Plain laws of lexing: how many tokens; texts put together. -/
import Derived.Test.YtcckocaaoklibaaDoorMath
namespace Go.Proofs.YtcckocaaoklibaaDoor.Kx
set_option linter.unusedVariables false

/-- a rule for what is left: by the tokens that stand there -/
theorem lexR_ind {N : Nat} {P : List UInt8 → Prop} (h0 : P []) (hbad : ∀ l, l ≠ [] → hdOk l → (tk l).2.2 ≠ 0 → P l)
    (hok : ∀ l, l ≠ [] → hdOk l → (tk l).2.2 = 0 → P (skipL false (l.drop (tk l).2.1)) → P l) : ∀ l, hdOk l → P l := by
  have : ∀ f l, l.length ≤ f → hdOk l → P l := by
    intro f
    induction f with
    | zero =>
      intro l hl _
      have : l = [] := List.length_eq_zero_iff.1 (by omega)
      rw [this]; exact h0
    | succ f ih =>
      intro l hl hd
      by_cases e : l = []
      · rw [e]; exact h0
      · by_cases hc : (tk l).2.2 = 0
        · have hp := tk_pos hc
          have h2 := skip_len false (l.drop (tk l).2.1)
          rw [List.length_drop] at h2
          exact hok l e hd hc (ih _ (by omega) (skip_hd _ _))
        · exact hbad l e hd hc
  exact fun l => this _ l (Nat.le_refl _)
theorem lexR_count (N : Nat) : ∀ l, hdOk l → (lexR N l).1.length ≤ l.length := by
  refine lexR_ind (N := N) ?_ ?_ ?_
  · exact Nat.le_refl _
  · intro l h1 _ h2
    rw [lexR_bad h1 h2]; exact Nat.zero_le _
  · intro l h1 _ h2 ih
    rw [lexR_ok h2]
    have hp := tk_pos h2
    have h3 := skip_len false (l.drop (tk l).2.1)
    rw [List.length_drop] at h3
    show (lexR N _).1.length + 1 ≤ _
    omega
theorem lexA_count (l : List UInt8) : (lexA l).1.length ≤ l.length := by
  unfold lexA
  have h1 := lexR_count l.length (skipL false l) (skip_hd _ _)
  have h2 := skip_len false l
  omega
end Go.Proofs.YtcckocaaoklibaaDoor.Kx
