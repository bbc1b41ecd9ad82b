/- Sums, differences and products by appending: plain mathematics, of no program. -/
import Derived.Test.YtmhfdmidaheoeaaDoorMath2
namespace Go.Proofs.YtmhfdmidaheoeaaDoor.Kn
theorem add_app {a b out : List Nat} {k cr t : Nat} (hl : out.length = k) (hi : val out + pw k * cr = val (a.take k) + val (b.take k)) (ht : t = cr + a.getD k 0 + b.getD k 0) :
    val (out ++ [t % 4294967296]) + pw (k + 1) * (t / 4294967296) = val (a.take (k + 1)) + val (b.take (k + 1)) := by
  rw [val_append, val_one, hl, val_take_step a, val_take_step b]
  have h := pw_divmod k t
  have e : pw k * t = pw k * cr + pw k * a.getD k 0 + pw k * b.getD k 0 := by rw [ht, Nat.mul_add, Nat.mul_add]
  omega
theorem sub_app {a b out : List Nat} {k bo r bo' : Nat} (hl : out.length = k) (hi : val out + val (b.take k) = val (a.take k) + pw k * bo) (hr : r + b.getD k 0 + bo = a.getD k 0 + 4294967296 * bo') :
    val (out ++ [r]) + val (b.take (k + 1)) = val (a.take (k + 1)) + pw (k + 1) * bo' := by
  rw [val_append, val_one, hl, val_take_step a, val_take_step b, pw_succ]
  have e := congrArg (pw k * ·) hr
  simp only [Nat.mul_add] at e
  rw [show pw k * (4294967296 * bo') = 4294967296 * pw k * bo' by rw [← Nat.mul_assoc, Nat.mul_comm (pw k) 4294967296]] at e
  omega
theorem sub_end {a b out : List Nat} {bo : Nat} (hw : Wd out) (hl : out.length = a.length) (hb : b.length ≤ a.length) (hi : val out + val (b.take a.length) = val (a.take a.length) + pw a.length * bo) (hle : val b ≤ val a) (hbo : bo ≤ 1) : val out = val a - val b := by
  rw [List.take_of_length_le (Nat.le_refl _), List.take_of_length_le hb] at hi
  have h := val_lt hw
  rw [hl] at h
  rcases Nat.eq_zero_or_pos bo with h0 | h0
  · subst h0; omega
  · have : bo = 1 := by omega
    subst this
    omega
theorem times_app {a out : List Nat} {k cr t d : Nat} (hl : out.length = k) (hi : val out + pw k * cr = val (a.take k) * d) (ht : t = a.getD k 0 * d + cr) :
    val (out ++ [t % 4294967296]) + pw (k + 1) * (t / 4294967296) = val (a.take (k + 1)) * d := by
  rw [val_append, val_one, hl, val_take_step a, Nat.add_mul, Nat.mul_assoc]
  have h := pw_divmod k t
  have e : pw k * t = pw k * (a.getD k 0 * d) + pw k * cr := by rw [ht, Nat.mul_add]
  omega
theorem app_end {out : List Nat} {k cr : Nat} (hl : out.length = k) : val (out ++ [cr]) = val out + pw k * cr := by rw [val_append, val_one, hl]
end Go.Proofs.YtmhfdmidaheoeaaDoor.Kn
