/- Walks: Compare. -/
import Derived.Test.YtmhfdmidaheoeaaDoorW9
import Derived.Lib.QuietBelow
namespace Go.Proofs.YtmhfdmidaheoeaaDoor
open Go.RowKit Go.Sort
set_option linter.unusedVariables false

theorem cell_regrown {w : World} {p : Addr} {v : Value} (h : w.cell? p = some v) (d : Nat) (os : Array Obj) : (grow (redrawn w d) os).cell? p = some v :=
  ((below_regrown w d os).cell (p := p) (World.block_lt_of_cell? w p h)).trans h
theorem Sl.regrown {w : World} {B : Nat} {A : Option Addr} {c : Nat} {ws : List Nat} (h : Sl w B A c ws) (hB : B ≤ w.heap.size) (d : Nat) (os : Array Obj) : Sl (grow (redrawn w d) os) (grow (redrawn w d) os).heap.size A c ws :=
  (h.below ((below_regrown w d os).mono hB)).more (Nat.le_trans hB (below_regrown w d os).size)

/-- a call's world with two arguments' boxes -/
structure P2 (w wr : World) (nx : Bool) (A : Option Addr) (n ca : Nat) (ny : Bool) (B : Option Addr) (m cb : Nat) : Prop where
  t1 : Two wr w.heap.size (.bool nx) (.slice A n ca)
  t2 : Two wr (w.heap.size + 1) (.bool ny) (.slice B m cb)
  bel : Below w.heap.size w wr
section
variable {w wr wx : World} {nx ny : Bool} {A B : Option Addr} {n m ca cb : Nat}
theorem P2.below (h : P2 w wr nx A n ca ny B m cb) (hb : Below wr.heap.size wr wx) : P2 w wx nx A n ca ny B m cb := ⟨h.t1.below hb h.t1.lt, h.t2.below hb h.t2.lt, h.bel.trans (hb.mono h.bel.size)⟩
theorem P2.drewN (h : P2 w wr nx A n ca ny B m cb) (q : Nat) : P2 w (wr.drewN q) nx A n ca ny B m cb := ⟨h.t1.drewN q, h.t2.drewN q, bDrew h.bel q⟩
theorem P2.new_ (w : World) (nx : Bool) (A : Option Addr) (n ca : Nat) (ny : Bool) (B : Option Addr) (m cb : Nat) (T : TypeId) :
    P2 w ((w.alloc (.cells #[.bool nx, .slice A n ca] T)).alloc (.cells #[.bool ny, .slice B m cb] T)) nx A n ca ny B m cb :=
  ⟨(Two.new_ _ _ _ _).alloc _, by simpa using Two.new_ (w.alloc (.cells #[.bool nx, .slice A n ca] T)) (.bool ny) (.slice B m cb) T, ((Below.refl _ _).alloc (Nat.le_refl _) _).alloc (by simp) _⟩
end

theorem sgn (a : Int) : (a < 0 ∧ a.sign = -1) ∨ (a = 0 ∧ a.sign = 0) ∨ (0 < a ∧ a.sign = 1) := by
  rcases Int.lt_trichotomy a 0 with h | h | h
  · exact Or.inl ⟨h, Int.sign_eq_neg_one_of_neg h⟩
  · exact Or.inr (Or.inl ⟨h, by rw [h]; rfl⟩)
  · exact Or.inr (Or.inr ⟨h, Int.sign_eq_one_of_pos h⟩)
theorem cmp_signs (a b : Int) (h : a.sign ≠ b.sign) : cmpI a.sign b.sign = cmpI a b := by
  rcases sgn a with ⟨h1, h2⟩ | ⟨h1, h2⟩ | ⟨h1, h2⟩ <;> rcases sgn b with ⟨h3, h4⟩ | ⟨h3, h4⟩ | ⟨h3, h4⟩ <;> rw [h2, h4] at h ⊢ <;> unfold cmpI <;> (repeat' split) <;> omega
/-- the order of two integers with one sign -/
theorem cmp_sign (nx ny : Bool) (xs ys : List Nat) (h : (Kn.iv nx xs).sign = (Kn.iv ny ys).sign) : (Kn.iv nx xs).sign * Kn.cmp (Kn.val xs) (Kn.val ys) = cmpI (Kn.iv nx xs) (Kn.iv ny ys) := by
  have hc := cmpI_nat (Kn.val xs) (Kn.val ys)
  rw [← hc]
  have ha : Kn.iv nx xs = Kn.val xs ∨ Kn.iv nx xs = -(Kn.val xs : Int) := by unfold Kn.iv; cases nx <;> simp
  have hb : Kn.iv ny ys = Kn.val ys ∨ Kn.iv ny ys = -(Kn.val ys : Int) := by unfold Kn.iv; cases ny <;> simp
  revert h ha hb
  generalize Kn.iv nx xs = a
  generalize Kn.iv ny ys = b
  generalize Kn.val xs = x
  generalize Kn.val ys = y
  intro h ha hb
  rcases sgn a with ⟨h1, h2⟩ | ⟨h1, h2⟩ | ⟨h1, h2⟩ <;> rcases sgn b with ⟨h3, h4⟩ | ⟨h3, h4⟩ | ⟨h3, h4⟩ <;> rw [h2, h4] at h <;> rw [h2] <;> unfold cmpI <;> (repeat' split) <;> omega

set_option maxRecDepth 100000 in
set_option maxHeartbeats 1000000 in
theorem bcompare_any (nx : Bool) (A : Option Addr) (ca : Nat) (xs : List Nat) (ny : Bool) (B : Option Addr) (cb : Nat) (ys : List Nat) (w : World) (hx : Sl w w.heap.size A ca xs) (hy : Sl w w.heap.size B cb ys) (hlx : xs.length ≤ 99999999) (hly : ys.length ≤ 99999999) :
    Calls Tryd.prog 16 #[intV nx A xs.length ca, intV ny B ys.length cb] w fun e w' => e = .returned (.int .i64 (cmpI (Kn.iv nx xs) (Kn.iv ny ys))) ∧ Below w.heap.size w w' := by
  have hdx : (Kn.dig (Kn.val xs)).length ≤ 99999999 := Nat.le_trans (Kn.dig_len_val hx.wd) hlx
  have hdy : (Kn.dig (Kn.val ys)).length ≤ 99999999 := Nat.le_trans (Kn.dig_len_val hy.wd) hly
  obtain ⟨sx, hsx⟩ : ∃ s, Hid ((Kn.iv nx xs).sign = s) := ⟨_, Lib.hid rfl⟩
  obtain ⟨sy, hsy⟩ : ∃ s, Hid ((Kn.iv ny ys).sign = s) := ⟨_, Lib.hid rfl⟩
  obtain ⟨R, hR⟩ : ∃ R, Hid (cmpI (Kn.iv nx xs) (Kn.iv ny ys) = R) := ⟨_, Lib.hid rfl⟩
  rw [hR.out]
  unfold intV
  go_enter Tryd.func16, Tryd.ntmps16
  go_wp2_with fail
  have i := P2.new_ w nx A xs.length ca ny B ys.length cb 24
  revert i
  generalize (w.alloc (.cells #[.bool nx, .slice A xs.length ca] 24)).alloc (.cells #[.bool ny, .slice B ys.length cb] 24) = w1
  intro i
  have k10 := cell_regrown i.t1.c0
  have k11 := cell_regrown i.t1.c1
  have k20 := cell_regrown i.t2.c0
  have k21 := cell_regrown i.t2.c1
  have hX := (hx.below i.bel).more i.bel.size
  have hY := (hy.below i.bel).more i.bel.size
  have q1 : ∀ d os, Calls Tryd.prog 12 #[.agg #[.bool nx, .slice A xs.length ca]] (grow (redrawn w1 d) os) fun e w'' => e = .returned (.int .i64 sx) ∧ ∃ p : Regrown, w'' = grow (redrawn w1 p.d) p.os :=
    fun d os => Calls.regrown_of (by rw [← hsx.out]; exact sign_any nx A ca xs _ (hX.regrown (Nat.le_refl _) d os) (by omega))
  have q2 : ∀ d os, Calls Tryd.prog 12 #[.agg #[.bool ny, .slice B ys.length cb]] (grow (redrawn w1 d) os) fun e w'' => e = .returned (.int .i64 sy) ∧ ∃ p : Regrown, w'' = grow (redrawn w1 p.d) p.os :=
    fun d os => Calls.regrown_of (by rw [← hsy.out]; exact sign_any ny B cb ys _ (hY.regrown (Nat.le_refl _) d os) (by omega))
  have Q1 := Lib.hid q1
  have Q2 := Lib.hid q2
  clear q1 q2
  refine wp_region_quiet_below (by kernel_rfl) (by kernel_rfl) ?_
  repeat (quiet_step ((go_at_call 12; first | (with_reducible exact Q1.out _ _) | (with_reducible exact Q2.out _ _))))
  refine wpQuiet_nil ?_
  intro _ hw'
  obtain ⟨⟨dq, osq⟩, hw''⟩ := hw'
  subst hw''
  replace i := i.below (below_regrown w1 dq osq)
  clear k10 k11 k20 k21 Q1 Q2 hX hY
  revert i
  generalize grow (redrawn w1 dq) osq = w2
  intro i
  by_cases hs : sx = sy
  · have h1 : (sx != sy) = false := by simp [hs]
    have HC : Hid (sx * Kn.cmp (Kn.val xs) (Kn.val ys) = R) := Lib.hid (by rw [← hsx.out, ← hR.out]; exact cmp_sign _ _ _ _ (by rw [hsx.out, hsy.out]; exact hs))
    have hR1 : -1 ≤ R ∧ R ≤ 1 := by rw [← hR.out]; unfold cmpI; split <;> (try split) <;> omega
    obtain ⟨cc, hcc⟩ : ∃ cc, Hid (Kn.cmp (Kn.val xs) (Kn.val ys) = cc) := ⟨_, Lib.hid rfl⟩
    have hCW : ∀ W : World, Sl W w2.heap.size A ca (Kn.dig (Kn.val xs)) → Sl W w2.heap.size B cb (Kn.dig (Kn.val ys)) → Calls Tryd.prog 41 #[.slice A (Kn.dig (Kn.val xs)).length ca, .slice B (Kn.dig (Kn.val ys)).length cb] W fun e w' => e = .returned (.int .i64 cc) ∧ ∃ q, w' = W.drewN q := fun W h1 h2 => by
      rw [← hcc.out]; exact compareWords_any A ca _ B cb _ _ _ h1 h2 (by omega) (by omega)
    have HCW := Lib.hid hCW
    clear hCW
    have HW : Hid (wrap64 (sx * cc) = R) := Lib.hid (by rw [← hcc.out, HC.out]; unfold wrap64; omega)
    have HS := Lib.hid hs
    clear hs hR1
    have c11 := i.t1.c1
    have c21 := i.t2.c1
    have hX := (hx.below i.bel).more i.bel.size
    have hY := (hy.below i.bel).more i.bel.size
    go_wp2_with fail
    go_quiet (first
      | (go_at_call 25; with_reducible exact quiet_of_eq (trim_any A ca xs _ _ (hX.drewN _) (by omega)))
      | (go_at_call 25; with_reducible exact quiet_of_eq (trim_any B cb ys _ _ (hY.drewN _) (by omega)))
      | (go_at_call 41; with_reducible exact quiet_drew (HCW.out _ (hX.drewN _).trim (hY.drewN _).trim)))
    go_wp2_with fail
    go_ret
    exact ⟨ret_int HW.out, bDrew i.bel _⟩
  · have h1 : (sx != sy) = true := by simp [hs]
    have HC : Hid (cmpI sx sy = R) := Lib.hid (by rw [← hsx.out, ← hsy.out, ← hR.out]; exact cmp_signs _ _ (by rw [hsx.out, hsy.out]; exact hs))
    have HS := Lib.hid hs
    clear hs
    go_wp2_with (go_at_call 40; refine (cmp_int _ _ _).mono ?_; rintro e w' ⟨rfl, rfl⟩)
    go_ret
    exact ⟨ret_int HC.out, i.bel⟩
end Go.Proofs.YtmhfdmidaheoeaaDoor
