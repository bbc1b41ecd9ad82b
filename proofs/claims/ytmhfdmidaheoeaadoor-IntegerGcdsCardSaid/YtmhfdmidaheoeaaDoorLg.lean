/- For the laws: quotients and common divisors of integers in memory, with their values. -/
import Derived.Test.YtmhfdmidaheoeaaDoorLw
import Derived.Test.YtmhfdmidaheoeaaDoorWn
import Derived.Test.YtmhfdmidaheoeaaDoorD7
import Derived.Test.YtmhfdmidaheoeaaDoorE2
import Derived.Test.YtmhfdmidaheoeaaDoorE3
import Derived.Test.YtmhfdmidaheoeaaDoorG5
namespace Go.Proofs.YtmhfdmidaheoeaaDoor
open Go.RowKit
set_option linter.unusedVariables false

theorem fm_eq (x y : Int) : x.fdiv y * y + x.fmod y = x := by rw [Int.mul_comm]; exact Int.mul_fdiv_add_fmod x y
theorem fm_range {x y : Int} (hy : y ≠ 0) : (0 < y ∧ 0 ≤ x.fmod y ∧ x.fmod y < y) ∨ (y < 0 ∧ y < x.fmod y ∧ x.fmod y ≤ 0) := by
  rcases Int.lt_or_gt_of_ne hy with h | h
  · have := (Int.fdiv_fmod_unique' (a := x) (r := x.fmod y) (q := x.fdiv y) h).1 ⟨rfl, rfl⟩
    exact Or.inr ⟨h, this.2⟩
  · have := (Int.fdiv_fmod_unique (a := x) (r := x.fmod y) (q := x.fdiv y) h).1 ⟨rfl, rfl⟩
    exact Or.inl ⟨h, this.2⟩
theorem fm_abs {x y : Int} (hy : y ≠ 0) : (x.fmod y).natAbs < y.natAbs := by rcases fm_range (x := x) hy with h | h <;> omega
theorem fm_sign {x y : Int} (hy : y ≠ 0) (hr : x.fmod y ≠ 0) : (x.fmod y).sign = y.sign := by
  rcases fm_range (x := x) hy with h | h
  · rw [Int.sign_eq_one_of_pos h.1, Int.sign_eq_one_of_pos (by omega)]
  · rw [Int.sign_eq_neg_one_of_neg h.1, Int.sign_eq_neg_one_of_neg (by omega)]

/-- two new integers, and no error -/
def GI2 (a b : Int) (n k : Nat) (W : World) (e : Ending) (W' : World) : Prop :=
  ∃ p A c l q B d m, e = .returned (.tuple #[.agg #[.bool p, .slice A l.length c], .agg #[.bool q, .slice B m.length d], .int .i64 0]) ∧ Cn W' p A c l a n ∧ Cn W' q B d m b k ∧ Below W.heap.size W W'
theorem GI2.of {a b : Int} {n k : Nat} {W W' : World} {e : Ending} (h : IntRes2 a b W e W') (ha : a.natAbs < Kn.pw n) (hb : b.natAbs < Kn.pw k) : GI2 a b n k W e W' := by
  obtain ⟨A, c, B, d, he, h1, h2, hbl⟩ := h
  exact ⟨_, A, c, _, _, B, d, _, he, ⟨⟨h1, Kn.iv_dig a, Kn.dig_len_le ha⟩, rfl, rfl⟩, ⟨⟨h2, Kn.iv_dig b, Kn.dig_len_le hb⟩, rfl, rfl⟩, hbl⟩
section
variable {W W' : World} {p q : Bool} {A B : Option Addr} {c d : Nat} {l m : List Nat} {x y z : Int} {n k : Nat}
theorem Iv.val0 (h : Iv W p A c l z n) : Kn.val l = z.natAbs := by rw [← h.val, Kn.iv_natAbs]
theorem gdivide (h1 : Iv W p A c l x n) (h2 : Iv W q B d m y k) (hy : y ≠ 0) (hn : n ≤ 100) (hk : k ≤ 100) : Calls Tryd.prog 8 #[.agg #[.bool p, .slice A l.length c], .agg #[.bool q, .slice B m.length d]] W (GI2 (x.fdiv y) (x.fmod y) n k W) := by
  have h := divide_any p A c l q B d m W h1.sl h2.sl (by have := h1.len; omega) (by have := h2.len; omega) (by rw [h2.val0]; omega)
  rw [h1.val, h2.val] at h
  exact h.mono fun _ _ hr => GI2.of hr (Nat.lt_of_le_of_lt (Int.natAbs_fdiv_le_natAbs x y) h1.abs) (Nat.lt_trans (fm_abs hy) h2.abs)
theorem grdivide (h1 : Iv W p A c l x n) (h2 : Iv W q B d m y k) (hy : y ≠ 0) (hn : n ≤ 100) (hk : k ≤ 100) : Calls Tryd.prog 9 #[.agg #[.bool p, .slice A l.length c], .agg #[.bool q, .slice B m.length d]] W (GI2 (x.fdiv y) (x.fmod y) n k W) := by
  have h := rdivide_any p A c l q B d m W h1.sl h2.sl (by have := h1.len; omega) (by have := h2.len; omega) (by rw [h2.val0]; omega)
  rw [h1.val, h2.val] at h
  exact h.mono fun _ _ hr => GI2.of hr (Nat.lt_of_le_of_lt (Int.natAbs_fdiv_le_natAbs x y) h1.abs) (Nat.lt_trans (fm_abs hy) h2.abs)
theorem gdivz (h2 : Iv W q B d m y k) (hy : y = 0) (hk : k ≤ 100) : Calls Tryd.prog 8 #[.agg #[.bool p, .slice A l.length c], .agg #[.bool q, .slice B m.length d]] W fun e w' => e = .returned (.tuple #[.agg #[.bool false, .slice none 0 0], .agg #[.bool false, .slice none 0 0], .int .i64 1]) ∧ Below W.heap.size W w' :=
  divide_zero p A c l q B d m W h2.sl (by have := h2.len; omega) (by rw [h2.val0, hy]; rfl)
theorem grdivz (h1 : Iv W p A c l x n) (h2 : Iv W q B d m y k) (hy : y = 0) (hn : n ≤ 100) (hk : k ≤ 100) : Calls Tryd.prog 9 #[.agg #[.bool p, .slice A l.length c], .agg #[.bool q, .slice B m.length d]] W fun e w' => e = .returned (.tuple #[.agg #[.bool false, .slice none 0 0], .agg #[.bool false, .slice none 0 0], .int .i64 1]) ∧ Below W.heap.size W w' :=
  rdivide_zero p A c l q B d m W h1.sl h2.sl (by have := h1.len; omega) (by have := h2.len; omega) (by rw [h2.val0, hy]; rfl)
theorem gcd_bound (h1 : x.natAbs < Kn.pw n) (h2 : y.natAbs < Kn.pw k) : (Nat.gcd x.natAbs y.natAbs : Int).natAbs < Kn.pw (max n k) := by
  rw [Int.natAbs_natCast]
  have e1 := Kn.pw_mono (show n ≤ max n k by omega)
  have e2 := Kn.pw_mono (show k ≤ max n k by omega)
  rcases Nat.eq_zero_or_pos x.natAbs with h0 | h0
  · rw [h0, Nat.gcd_zero_left]; omega
  · have := Nat.gcd_le_left y.natAbs h0; omega
theorem ggcd (h1 : Iv W p A c l x n) (h2 : Iv W q B d m y k) (hn : n ≤ 100) (hk : k ≤ 100) : Calls Tryd.prog 18 #[.agg #[.bool p, .slice A l.length c], .agg #[.bool q, .slice B m.length d]] W (GI (Nat.gcd x.natAbs y.natAbs : Int) (max n k) W) := by
  have h := gcd_any p A c l q B d m W h1.sl h2.sl (by have := h1.len; omega) (by have := h2.len; omega)
  rw [h1.val0, h2.val0] at h
  exact h.mono fun _ _ hr => GI.of hr (gcd_bound h1.abs h2.abs)
theorem grgcd (h1 : Iv W p A c l x n) (h2 : Iv W q B d m y k) (hn : n ≤ 100) (hk : k ≤ 100) : Calls Tryd.prog 19 #[.agg #[.bool p, .slice A l.length c], .agg #[.bool q, .slice B m.length d]] W (GI (Nat.gcd x.natAbs y.natAbs : Int) (max n k) W) := by
  have h := rgcd_any p A c l q B d m W h1.sl h2.sl (by have := h1.len; omega) (by have := h2.len; omega)
  rw [h1.val0, h2.val0] at h
  exact h.mono fun _ _ hr => GI.of hr (gcd_bound h1.abs h2.abs)
theorem gof1 (W : World) : Calls Tryd.prog 20 #[.int .i64 1] W (GI 1 1 W) :=
  (of_any 1 (Lib.hid (by omega)) (Lib.hid (by omega)) W).mono fun _ _ hr => GI.of hr (by decide)
end

/-- an integer in a box of its own -/
structure Bi (W : World) (g : Nat) (z : Int) (n : Nat) (p : Bool) (A : Option Addr) (c : Nat) (l : List Nat) : Prop where
  t : Two W g (.bool p) (.slice A l.length c)
  v : Cn W p A c l z n
/-- the same, in whatever form -/
structure Bv (W : World) (g : Nat) (z : Int) (n : Nat) (p : Bool) (A : Option Addr) (c : Nat) (l : List Nat) : Prop where
  t : Two W g (.bool p) (.slice A l.length c)
  v : Iv W p A c l z n
section
variable {W W' : World} {p : Bool} {A : Option Addr} {c : Nat} {l : List Nat} {z : Int} {n g : Nat}
theorem Bi.below (h : Bi W g z n p A c l) (hb : Below W.heap.size W W') : Bi W' g z n p A c l := ⟨h.t.below hb h.t.lt, h.v.below hb⟩
theorem Bv.below (h : Bv W g z n p A c l) (hb : Below W.heap.size W W') : Bv W' g z n p A c l := ⟨h.t.below hb h.t.lt, h.v.below hb⟩
theorem Bi.drew (h : Bi W g z n p A c l) : Bi W.drew g z n p A c l := ⟨h.t.drew, h.v.drew⟩
theorem Bv.drew (h : Bv W g z n p A c l) : Bv W.drew g z n p A c l := ⟨h.t.drew, h.v.drew⟩
theorem Bi.alloc (h : Bi W g z n p A c l) (o : Obj) : Bi (W.alloc o) g z n p A c l := ⟨h.t.alloc o, h.v.alloc o⟩
theorem Bv.alloc (h : Bv W g z n p A c l) (o : Obj) : Bv (W.alloc o) g z n p A c l := ⟨h.t.alloc o, h.v.alloc o⟩
theorem Bi.new_ (h : Cn W p A c l z n) (T : TypeId) : Bi (W.alloc (.cells #[.bool p, .slice A l.length c] T)) W.heap.size z n p A c l := ⟨Two.new_ _ _ _ _, h.alloc _⟩
theorem Bi.new2 (h : Cn W p A c l z n) (T : TypeId) (o : Obj) : Bi ((W.alloc o).alloc (.cells #[.bool p, .slice A l.length c] T)) (W.heap.size + 1) z n p A c l := by
  have := Bi.new_ (h.alloc o) T
  rwa [World.size_alloc] at this
end
end Go.Proofs.YtmhfdmidaheoeaaDoor
