/- For the laws: integers in memory with their values; what the functions make of them. -/
import Derived.Test.YtmhfdmidaheoeaaDoorWf
import Derived.Test.YtmhfdmidaheoeaaDoorWk
namespace Go.Proofs.YtmhfdmidaheoeaaDoor
open Go.RowKit
set_option linter.unusedVariables false

/-- the integer z, of at most n words -/
structure Iv (W : World) (p : Bool) (A : Option Addr) (c : Nat) (l : List Nat) (z : Int) (n : Nat) : Prop where
  sl : Sl W W.heap.size A c l
  val : Kn.iv p l = z
  len : l.length ≤ n
/-- in canonical form -/
structure Cn (W : World) (p : Bool) (A : Option Addr) (c : Nat) (l : List Nat) (z : Int) (n : Nat) : Prop where
  iv : Iv W p A c l z n
  can : p = decide (z < 0) ∧ l = Kn.dig z.natAbs
section
variable {W W' : World} {p q : Bool} {A B : Option Addr} {c d : Nat} {l m : List Nat} {x y z : Int} {n k : Nat}
theorem Iv.below (h : Iv W p A c l z n) (hb : Below W.heap.size W W') : Iv W' p A c l z n := ⟨h.sl.at_ hb (Nat.le_refl _), h.val, h.len⟩
theorem Cn.below (h : Cn W p A c l z n) (hb : Below W.heap.size W W') : Cn W' p A c l z n := ⟨h.iv.below hb, h.can⟩
theorem Iv.drew (h : Iv W p A c l z n) : Iv W.drew p A c l z n := ⟨h.sl.drew, h.val, h.len⟩
theorem Cn.drew (h : Cn W p A c l z n) : Cn W.drew p A c l z n := ⟨h.iv.drew, h.can⟩
theorem Iv.alloc (h : Iv W p A c l z n) (o : Obj) : Iv (W.alloc o) p A c l z n := ⟨(h.sl.alloc (Nat.le_refl _) o).more (by simp), h.val, h.len⟩
theorem Cn.alloc (h : Cn W p A c l z n) (o : Obj) : Cn (W.alloc o) p A c l z n := ⟨h.iv.alloc o, h.can⟩
theorem Iv.abs (h : Iv W p A c l z n) : z.natAbs < Kn.pw n := by
  have h1 := iv_abs_lt p h.sl.wd
  rw [h.val] at h1
  have := Kn.pw_mono h.len
  omega
/-- a new integer -/
def GI (z : Int) (n : Nat) (W : World) (e : Ending) (W' : World) : Prop := ∃ p A c l, e = .returned (.agg #[.bool p, .slice A l.length c]) ∧ Cn W' p A c l z n ∧ Below W.heap.size W W'
theorem GI.of {e : Ending} (h : IntRes z W e W') (hz : z.natAbs < Kn.pw n) : GI z n W e W' := by
  obtain ⟨A, c, he, hS, hb⟩ := h
  exact ⟨_, A, c, _, he, ⟨⟨hS, Kn.iv_dig z, Kn.dig_len_le hz⟩, rfl, rfl⟩, hb⟩
theorem pw_max (hx : x.natAbs < Kn.pw n) (hy : y.natAbs < Kn.pw k) : x.natAbs + y.natAbs < Kn.pw (max n k + 1) := by
  have h1 := Kn.pw_mono (show n ≤ max n k by omega)
  have h2 := Kn.pw_mono (show k ≤ max n k by omega)
  rw [Kn.pw_succ]; omega
theorem gadd (h1 : Iv W p A c l x n) (h2 : Iv W q B d m y k) (hn : n ≤ 100) (hk : k ≤ 100) : Calls Tryd.prog 13 #[.agg #[.bool p, .slice A l.length c], .agg #[.bool q, .slice B m.length d]] W (GI (x + y) (max n k + 1) W) := by
  have h := add_any p A c l q B d m W h1.sl h2.sl (by have := h1.len; omega) (by have := h2.len; omega)
  rw [h1.val, h2.val] at h
  exact h.mono fun _ _ hr => GI.of hr (by have := pw_max h1.abs h2.abs; omega)
theorem gradd (h1 : Iv W p A c l x n) (h2 : Iv W q B d m y k) (hn : n ≤ 100) (hk : k ≤ 100) : Calls Tryd.prog 63 #[.agg #[.bool p, .slice A l.length c], .agg #[.bool q, .slice B m.length d]] W (GI (x + y) (max n k + 1) W) := by
  have h := radd_any p A c l q B d m W h1.sl h2.sl (by have := h1.len; omega) (by have := h2.len; omega)
  rw [h1.val, h2.val] at h
  exact h.mono fun _ _ hr => GI.of hr (by have := pw_max h1.abs h2.abs; omega)
theorem grsub (h1 : Iv W p A c l x n) (h2 : Iv W q B d m y k) (hn : n ≤ 100) (hk : k ≤ 100) : Calls Tryd.prog 33 #[.agg #[.bool p, .slice A l.length c], .agg #[.bool q, .slice B m.length d]] W (GI (x - y) (max n k + 1) W) := by
  have h := rsub_any p A c l q B d m W h1.sl h2.sl (by have := h1.len; omega) (by have := h2.len; omega)
  rw [h1.val, h2.val] at h
  exact h.mono fun _ _ hr => GI.of hr (by have := pw_max h1.abs h2.abs; omega)
theorem gmul (h1 : Iv W p A c l x n) (h2 : Iv W q B d m y k) (hn : n ≤ 100) (hk : k ≤ 100) : Calls Tryd.prog 14 #[.agg #[.bool p, .slice A l.length c], .agg #[.bool q, .slice B m.length d]] W (GI (x * y) (n + k) W) := by
  have h := mul_any p A c l q B d m W h1.sl h2.sl (by have := h1.len; omega) (by have := h2.len; omega)
  rw [h1.val, h2.val] at h
  exact h.mono fun _ _ hr => GI.of hr (by rw [Int.natAbs_mul, Kn.pw_add]; exact Nat.mul_lt_mul'' h1.abs h2.abs)
theorem gclean (h1 : Iv W p A c l x n) (hn : n ≤ 100) : Calls Tryd.prog 15 #[.agg #[.bool p, .slice A l.length c]] W (GI x n W) := by
  have h := clean_any p A c l W h1.sl (by have := h1.len; omega)
  rw [h1.val] at h
  exact h.mono fun _ _ hr => GI.of hr h1.abs
theorem gabs (h1 : Iv W p A c l x n) (hn : n ≤ 100) : Calls Tryd.prog 17 #[.agg #[.bool p, .slice A l.length c]] W (GI (x.natAbs : Int) n W) := by
  have h := abs_any p A c l W h1.sl (by have := h1.len; omega)
  rw [show Kn.iv false l = (x.natAbs : Int) by rw [← h1.val, Kn.iv_natAbs]; rfl] at h
  exact h.mono fun _ _ hr => GI.of hr (by rw [Int.natAbs_natCast]; exact h1.abs)
theorem grneg (h1 : Iv W p A c l x n) (hn : n ≤ 100) : Calls Tryd.prog 64 #[.agg #[.bool p, .slice A l.length c]] W (GI (-x) n W) := by
  have h := rneg_any p A c l W h1.sl (by have := h1.len; omega)
  rw [iv_not, h1.val] at h
  exact h.mono fun _ _ hr => GI.of hr (by rw [Int.natAbs_neg]; exact h1.abs)
theorem gsame (h1 : Cn W p A c l x n) (h2 : Cn W q B d m y k) (hn : n ≤ 1000) (hk : k ≤ 1000) : Calls Tryd.prog 10 #[.agg #[.bool p, .slice A l.length c], .agg #[.bool q, .slice B m.length d]] W fun e w' => e = .returned (.bool (decide (x = y))) ∧ Below W.heap.size W w' := by
  have h := same_any p A c l q B d m W h1.iv.sl h2.iv.sl (by have := h1.iv.len; omega) (by have := h2.iv.len; omega)
  have e : decide (p = q ∧ l = m) = decide (x = y) := by
    rw [decide_eq_decide]
    constructor
    · rintro ⟨e1, e2⟩
      rw [← h1.iv.val, ← h2.iv.val, e1, e2]
    · intro e
      rw [h1.can.1, h2.can.1, h1.can.2, h2.can.2, e]
      exact ⟨rfl, rfl⟩
  rw [e] at h
  exact h
theorem gsame_t (h1 : Cn W p A c l x n) (h2 : Cn W q B d m y k) (hn : n ≤ 1000) (hk : k ≤ 1000) (hxy : x = y) : Calls Tryd.prog 10 #[.agg #[.bool p, .slice A l.length c], .agg #[.bool q, .slice B m.length d]] W fun e w' => e = .returned (.bool true) ∧ Below W.heap.size W w' := by
  have h := gsame h1 h2 hn hk
  rwa [decide_eq_true hxy] at h
theorem gcmp (h1 : Iv W p A c l x n) (h2 : Iv W q B d m y k) (hn : n ≤ 100) (hk : k ≤ 100) : Calls Tryd.prog 16 #[.agg #[.bool p, .slice A l.length c], .agg #[.bool q, .slice B m.length d]] W fun e w' => e = .returned (.int .i64 (cmpI x y)) ∧ Below W.heap.size W w' := by
  have h := bcompare_any p A c l q B d m W h1.sl h2.sl (by have := h1.len; omega) (by have := h2.len; omega)
  rwa [h1.val, h2.val] at h
theorem gsign (h1 : Iv W p A c l x n) (hn : n ≤ 1000) : Calls Tryd.prog 12 #[.agg #[.bool p, .slice A l.length c]] W fun e w' => e = .returned (.int .i64 x.sign) ∧ Below W.heap.size W w' := by
  have h := sign_any p A c l W h1.sl (by have := h1.len; omega)
  rwa [h1.val] at h
theorem grsign (h1 : Iv W p A c l x n) (hn : n ≤ 1000) : Calls Tryd.prog 11 #[.agg #[.bool p, .slice A l.length c]] W fun e w' => e = .returned (.int .i64 x.sign) ∧ Below W.heap.size W w' := by
  have h := rsign_any p A c l W h1.sl (by have := h1.len; omega)
  rwa [h1.val] at h
theorem gshort_t (W : World) (h : l.length ≤ 10) : Calls Tryd.prog 7 #[.agg #[.bool p, .slice A l.length c]] W fun e w' => e = .returned (.bool true) ∧ Below W.heap.size W w' := by
  have := short_any p A c l.length W
  rwa [decide_eq_true h] at this
theorem gshort_f (W : World) (h : ¬ l.length ≤ 10) : Calls Tryd.prog 7 #[.agg #[.bool p, .slice A l.length c]] W fun e w' => e = .returned (.bool false) ∧ Below W.heap.size W w' := by
  have := short_any p A c l.length W
  rwa [decide_eq_false h] at this
end

/-- three arguments in their boxes -/
structure A3 (w wr : World) (p1 : Bool) (a1 : Option Addr) (n1 c1 : Nat) (p2 : Bool) (a2 : Option Addr) (n2 c2 : Nat) (p3 : Bool) (a3 : Option Addr) (n3 c3 : Nat) : Prop where
  t1 : Two wr w.heap.size (.bool p1) (.slice a1 n1 c1)
  t2 : Two wr (w.heap.size + 1) (.bool p2) (.slice a2 n2 c2)
  t3 : Two wr (w.heap.size + 2) (.bool p3) (.slice a3 n3 c3)
  bel : Below w.heap.size w wr
section
variable {w wr wx : World} {p1 p2 p3 : Bool} {a1 a2 a3 : Option Addr} {n1 c1 n2 c2 n3 c3 : Nat}
theorem A3.below (h : A3 w wr p1 a1 n1 c1 p2 a2 n2 c2 p3 a3 n3 c3) (hb : Below wr.heap.size wr wx) : A3 w wx p1 a1 n1 c1 p2 a2 n2 c2 p3 a3 n3 c3 := ⟨h.t1.below hb h.t1.lt, h.t2.below hb h.t2.lt, h.t3.below hb h.t3.lt, h.bel.trans (hb.mono h.bel.size)⟩
theorem A3.drew (h : A3 w wr p1 a1 n1 c1 p2 a2 n2 c2 p3 a3 n3 c3) : A3 w wr.drew p1 a1 n1 c1 p2 a2 n2 c2 p3 a3 n3 c3 := ⟨h.t1.drew, h.t2.drew, h.t3.drew, bDrew1 h.bel⟩
theorem A3.alloc (h : A3 w wr p1 a1 n1 c1 p2 a2 n2 c2 p3 a3 n3 c3) (o : Obj) : A3 w (wr.alloc o) p1 a1 n1 c1 p2 a2 n2 c2 p3 a3 n3 c3 := ⟨h.t1.alloc o, h.t2.alloc o, h.t3.alloc o, h.bel.alloc h.bel.size o⟩
theorem A3.new_ (w : World) (p1 : Bool) (a1 : Option Addr) (n1 c1 : Nat) (p2 : Bool) (a2 : Option Addr) (n2 c2 : Nat) (p3 : Bool) (a3 : Option Addr) (n3 c3 : Nat) (T : TypeId) :
    A3 w (((w.alloc (.cells #[.bool p1, .slice a1 n1 c1] T)).alloc (.cells #[.bool p2, .slice a2 n2 c2] T)).alloc (.cells #[.bool p3, .slice a3 n3 c3] T)) p1 a1 n1 c1 p2 a2 n2 c2 p3 a3 n3 c3 :=
  ⟨((Two.new_ _ _ _ _).alloc _).alloc _, by simpa using (Two.new_ (w.alloc (.cells #[.bool p1, .slice a1 n1 c1] T)) (.bool p2) (.slice a2 n2 c2) T).alloc (.cells #[.bool p3, .slice a3 n3 c3] T),
    by simpa using Two.new_ ((w.alloc (.cells #[.bool p1, .slice a1 n1 c1] T)).alloc (.cells #[.bool p2, .slice a2 n2 c2] T)) (.bool p3) (.slice a3 n3 c3) T,
    (((Below.refl _ _).alloc (Nat.le_refl _) _).alloc (by simp) _).alloc (by simp; omega) _⟩
end
end Go.Proofs.YtmhfdmidaheoeaaDoor
