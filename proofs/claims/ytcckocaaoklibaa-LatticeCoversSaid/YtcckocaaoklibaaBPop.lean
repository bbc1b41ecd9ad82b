import Derived.Test.YtcckocaaoklibaaBMath
/- Plain laws of counting bits: no Go in sight. -/
namespace Go.Proofs.Ytcckocaaoklibaa.Kb

/-- how many i below k have f i -/
def cnt (f : Nat → Bool) (k : Nat) : Nat := (membersTo f k).length

theorem cnt_zero (f : Nat → Bool) : cnt f 0 = 0 := rfl
theorem cnt_succ (f : Nat → Bool) (k : Nat) : cnt f (k + 1) = cnt f k + (if f k then 1 else 0) := by
  unfold cnt
  rw [membersTo_succ, List.length_append]
  split <;> rfl
theorem cnt_add (f : Nat → Bool) (a b : Nat) : cnt f (a + b) = cnt f a + cnt (fun i => f (a + i)) b := by
  induction b with
  | zero => rfl
  | succ b ih => rw [← Nat.add_assoc, cnt_succ, ih, cnt_succ, Nat.add_assoc]
theorem cnt_congr {f g : Nat → Bool} (k : Nat) (h : ∀ i, i < k → f i = g i) : cnt f k = cnt g k := by
  induction k with
  | zero => rfl
  | succ k ih => rw [cnt_succ, cnt_succ, ih (fun i hi => h i (by omega)), h k (by omega)]
theorem cnt_le (f : Nat → Bool) (k : Nat) : cnt f k ≤ k := membersTo_le f k
theorem cnt_none {f : Nat → Bool} (k : Nat) (h : ∀ i, i < k → f i = false) : cnt f k = 0 := by
  rw [cnt_congr k h]
  induction k with
  | zero => rfl
  | succ k ih => rw [cnt_succ, ih (fun i hi => h i (by omega))]; rfl

/-- the bits of one byte -/
def p8 (a : Nat) : Nat := cnt a.testBit 8
/-- the bits of k bytes -/
def pb : Nat → Nat → Nat
  | 0, _ => 0
  | k + 1, x => p8 (x % 256) + pb k (x / 256)
/-- the counts of k bytes, a byte each -/
def sp : Nat → Nat → Nat
  | 0, _ => 0
  | k + 1, x => p8 (x % 256) + 256 * sp k (x / 256)
/-- 0x0101.. -/
def rp : Nat → Nat
  | 0 => 0
  | k + 1 => 1 + 256 * rp k

theorem pb_cnt (k : Nat) : ∀ x, cnt x.testBit (8 * k) = pb k x := by
  induction k with
  | zero => intro x; rfl
  | succ k ih =>
    intro x
    rw [show 8 * (k + 1) = 8 + 8 * k by omega, cnt_add]
    show _ = p8 (x % 256) + pb k (x / 256)
    rw [← ih (x / 256)]
    congr 1
    · unfold p8
      refine cnt_congr _ fun i hi => ?_
      rw [show (256 : Nat) = 2 ^ 8 from rfl, Nat.testBit_mod_two_pow]
      simp [hi]
    · refine cnt_congr _ fun i hi => ?_
      rw [show (256 : Nat) = 2 ^ 8 from rfl, Nat.testBit_div_two_pow, Nat.add_comm]

theorem and_split (a c m M : Nat) (ha : a < 256) (hm : m < 256) : (a + 256 * c) &&& (m + 256 * M) = (a &&& m) + 256 * (c &&& M) := by
  have hl : (a &&& m) < 2 ^ 8 := Nat.lt_of_le_of_lt Nat.and_le_left ha
  apply Nat.eq_of_testBit_eq
  intro j
  rw [Nat.testBit_and, Nat.add_comm a, Nat.add_comm m, Nat.add_comm (a &&& m), show (256 : Nat) = 2 ^ 8 from rfl, Nat.testBit_two_pow_mul_add _ ha, Nat.testBit_two_pow_mul_add _ hm, Nat.testBit_two_pow_mul_add _ hl]
  split
  · rw [Nat.testBit_and]
  · rw [Nat.testBit_and]

def t1 (k x : Nat) : Nat := (x / 2 &&& 85 * rp k) + (x &&& 85 * rp k)
def t2 (k x : Nat) : Nat := (x / 4 &&& 51 * rp k) + (x &&& 51 * rp k)
def t3 (k x : Nat) : Nat := (x / 16 + x) &&& 15 * rp k

theorem d1 : ∀ a : Fin 256, ∀ b : Fin 2, (a.val / 2 + 128 * b.val) &&& 85 = (a.val / 2 &&& 85) := by decide +kernel
theorem d2 : ∀ a : Fin 256, ∀ b : Fin 4, (a.val / 4 + 64 * b.val) &&& 51 = (a.val / 4 &&& 51) := by decide +kernel
def b1 (a : Nat) : Nat := (a / 2 &&& 85) + (a &&& 85)
def b2 (a : Nat) : Nat := (b1 a / 4 &&& 51) + (b1 a &&& 51)
theorem d3 : ∀ a : Fin 256, b1 a.val < 256 ∧ b2 a.val < 256 ∧ b2 a.val / 16 ≤ 4 ∧ b2 a.val % 16 ≤ 4 ∧ b2 a.val / 16 + b2 a.val % 16 = p8 a.val := by decide +kernel
theorem and15 (a : Nat) : a &&& 15 = a % 16 := Nat.and_two_pow_sub_one_eq_mod a 4

theorem t1_step (k a c : Nat) (ha : a < 256) : t1 (k + 1) (a + 256 * c) = b1 a + 256 * t1 k c := by
  have h1 := and_split a c 85 (85 * rp k) ha (by decide)
  have h2 := and_split (a / 2 + 128 * (c % 2)) (c / 2) 85 (85 * rp k) (by omega) (by decide)
  have h3 := d1 ⟨a, ha⟩ ⟨c % 2, by omega⟩
  simp only at h3
  unfold t1 b1
  rw [show 85 * rp (k + 1) = 85 + 256 * (85 * rp k) by rw [rp]; omega, show (a + 256 * c) / 2 = a / 2 + 128 * (c % 2) + 256 * (c / 2) by omega, h1, h2, h3]
  omega
theorem t2_step (k a c : Nat) (ha : a < 256) : t2 (k + 1) (a + 256 * c) = (a / 4 &&& 51) + (a &&& 51) + 256 * t2 k c := by
  have h1 := and_split a c 51 (51 * rp k) ha (by decide)
  have h2 := and_split (a / 4 + 64 * (c % 4)) (c / 4) 51 (51 * rp k) (by omega) (by decide)
  have h3 := d2 ⟨a, ha⟩ ⟨c % 4, by omega⟩
  simp only at h3
  unfold t2
  rw [show 51 * rp (k + 1) = 51 + 256 * (51 * rp k) by rw [rp]; omega, show (a + 256 * c) / 4 = a / 4 + 64 * (c % 4) + 256 * (c / 4) by omega, h1, h2, h3]
  omega
theorem t3_step (k a c : Nat) (h1 : a / 16 ≤ 4) (h2 : a % 16 ≤ 4) (h3 : c % 16 ≤ 4) : t3 (k + 1) (a + 256 * c) = a / 16 + a % 16 + 256 * t3 k c := by
  have h := and_split (a / 16 + 16 * (c % 16) + a) (c / 16 + c) 15 (15 * rp k) (by omega) (by decide)
  unfold t3
  rw [show 15 * rp (k + 1) = 15 + 256 * (15 * rp k) by rw [rp]; omega, show (a + 256 * c) / 16 + (a + 256 * c) = (a / 16 + 16 * (c % 16) + a) + 256 * (c / 16 + c) by omega, h, and15]
  omega

/-- two steps: k bytes, a byte each -/
def q2 : Nat → Nat → Nat
  | 0, _ => 0
  | k + 1, x => b2 (x % 256) + 256 * q2 k (x / 256)
theorem t12 (k : Nat) : ∀ x, x < 256 ^ k → t2 k (t1 k x) = q2 k x := by
  induction k with
  | zero =>
    intro x hx
    unfold t2 t1 q2 rp
    simp
  | succ k ih =>
    intro x hx
    have hx' : x / 256 < 256 ^ k := by
      rw [Nat.pow_succ] at hx
      exact Nat.div_lt_of_lt_mul (by rw [Nat.mul_comm]; exact hx)
    have hm : x % 256 < 256 := Nat.mod_lt _ (by decide)
    have hd := d3 ⟨x % 256, hm⟩
    simp only at hd
    conv => lhs; rw [show x = x % 256 + 256 * (x / 256) by omega]
    rw [t1_step _ _ _ hm, t2_step _ _ _ hd.1, ih _ hx']
    rfl
theorem q2_mod (k x : Nat) : q2 k x % 16 ≤ 4 := by
  cases k with
  | zero => simp [q2]
  | succ k =>
    have hm : x % 256 < 256 := Nat.mod_lt _ (by decide)
    have hd := d3 ⟨x % 256, hm⟩
    simp only at hd
    unfold q2
    omega
theorem t3_q2 (k : Nat) : ∀ x, t3 k (q2 k x) = sp k x := by
  induction k with
  | zero => intro x; simp [t3, q2, sp, rp]
  | succ k ih =>
    intro x
    have hm : x % 256 < 256 := Nat.mod_lt _ (by decide)
    have hd := d3 ⟨x % 256, hm⟩
    simp only at hd
    show t3 (k + 1) (b2 (x % 256) + 256 * q2 k (x / 256)) = p8 (x % 256) + 256 * sp k (x / 256)
    rw [t3_step _ _ _ hd.2.2.1 hd.2.2.2.1 (q2_mod _ _), ih, hd.2.2.2.2]

theorem p8_le (a : Nat) : p8 a ≤ 8 := cnt_le _ _

/-- the last three steps -/
theorem fold8 (p0 p1 p2 p3 p4 p5 p6 p7 : Nat) (h0 : p0 ≤ 8) (h1 : p1 ≤ 8) (h2 : p2 ≤ 8) (h3 : p3 ≤ 8) (h4 : p4 ≤ 8) (h5 : p5 ≤ 8) (h6 : p6 ≤ 8) (h7 : p7 ≤ 8) (y a b c : Nat)
    (hy : y = p0 + 256 * (p1 + 256 * (p2 + 256 * (p3 + 256 * (p4 + 256 * (p5 + 256 * (p6 + 256 * p7)))))))
    (ha : a = y + y / 256) (hb : b = a + a / 65536) (hc : c = b + b / 4294967296) : c % 128 = p0 + p1 + p2 + p3 + p4 + p5 + p6 + p7 ∧ a < 2 ^ 60 ∧ b < 2 ^ 60 ∧ c < 2 ^ 61 := by
  have e1 : y / 256 = p1 + 256 * (p2 + 256 * (p3 + 256 * (p4 + 256 * (p5 + 256 * (p6 + 256 * p7))))) := by omega
  have e2 : a = (p0 + p1) + 256 * ((p1 + p2) + 256 * ((p2 + p3) + 256 * ((p3 + p4) + 256 * ((p4 + p5) + 256 * ((p5 + p6) + 256 * ((p6 + p7) + 256 * p7)))))) := by rw [ha, e1, hy]; omega
  clear ha e1 hy
  have e3 : a / 65536 = (p2 + p3) + 256 * ((p3 + p4) + 256 * ((p4 + p5) + 256 * ((p5 + p6) + 256 * ((p6 + p7) + 256 * p7)))) := by omega
  have e4 : b = (p0 + p1 + p2 + p3) + 256 * ((p1 + p2 + p3 + p4) + 256 * ((p2 + p3 + p4 + p5) + 256 * ((p3 + p4 + p5 + p6) + 256 * ((p4 + p5 + p6 + p7) + 256 * ((p5 + p6 + p7) + 256 * ((p6 + p7) + 256 * p7)))))) := by rw [hb, e3, e2]; omega
  have ea : a < 2 ^ 60 := by omega
  clear hb e3 e2
  have e5 : b / 4294967296 = (p4 + p5 + p6 + p7) + 256 * ((p5 + p6 + p7) + 256 * ((p6 + p7) + 256 * p7)) := by omega
  have eb : b < 2 ^ 60 := by omega
  have e6 : c = (p0 + p1 + p2 + p3 + p4 + p5 + p6 + p7) + 256 * ((p1 + p2 + p3 + p4 + p5 + p6 + p7) + 256 * ((p2 + p3 + p4 + p5 + p6 + p7) + 256 * ((p3 + p4 + p5 + p6 + p7) + 256 * ((p4 + p5 + p6 + p7) + 256 * ((p5 + p6 + p7) + 256 * ((p6 + p7) + 256 * p7)))))) := by rw [hc, e5, e4]; omega
  clear hc e5 e4
  exact ⟨by omega, ea, eb, by omega⟩

/-- all steps at once, on numbers -/
theorem ones_nat (x y1 y2 y3 a b c : Nat) (hx : x < 2 ^ 64) (h1 : y1 = (x / 2 &&& 6148914691236517205) + (x &&& 6148914691236517205)) (h2 : y2 = (y1 / 4 &&& 3689348814741910323) + (y1 &&& 3689348814741910323))
    (h3 : y3 = (y2 / 16 + y2) &&& 1085102592571150095) (ha : a = y3 + y3 / 256) (hb : b = a + a / 65536) (hc : c = b + b / 4294967296) :
    c % 128 = cnt x.testBit 64 ∧ a < 2 ^ 60 ∧ b < 2 ^ 60 ∧ c < 2 ^ 61 := by
  have r8 : rp 8 = 72340172838076673 := by decide
  have e1 : y1 = t1 8 x := by rw [h1]; unfold t1; rw [r8]
  have e2 : y2 = t2 8 y1 := by rw [h2]; unfold t2; rw [r8]
  have e3 : y3 = t3 8 y2 := by rw [h3]; unfold t3; rw [r8]
  have e : y3 = sp 8 x := by rw [e3, e2, e1, t12 8 x (by omega), t3_q2]
  have hp : cnt x.testBit 64 = pb 8 x := pb_cnt 8 x
  rw [hp]
  simp only [sp] at e
  simp only [pb]
  have l0 := p8_le (x % 256)
  have l1 := p8_le (x / 256 % 256)
  have l2 := p8_le (x / 256 / 256 % 256)
  have l3 := p8_le (x / 256 / 256 / 256 % 256)
  have l4 := p8_le (x / 256 / 256 / 256 / 256 % 256)
  have l5 := p8_le (x / 256 / 256 / 256 / 256 / 256 % 256)
  have l6 := p8_le (x / 256 / 256 / 256 / 256 / 256 / 256 % 256)
  have l7 := p8_le (x / 256 / 256 / 256 / 256 / 256 / 256 / 256 % 256)
  generalize p8 (x % 256) = p0 at *
  generalize p8 (x / 256 % 256) = p1 at *
  generalize p8 (x / 256 / 256 % 256) = p2 at *
  generalize p8 (x / 256 / 256 / 256 % 256) = p3 at *
  generalize p8 (x / 256 / 256 / 256 / 256 % 256) = p4 at *
  generalize p8 (x / 256 / 256 / 256 / 256 / 256 % 256) = p5 at *
  generalize p8 (x / 256 / 256 / 256 / 256 / 256 / 256 % 256) = p6 at *
  generalize p8 (x / 256 / 256 / 256 / 256 / 256 / 256 / 256 % 256) = p7 at *
  have h := fold8 p0 p1 p2 p3 p4 p5 p6 p7 l0 l1 l2 l3 l4 l5 l6 l7 y3 a b c (by rw [e, Nat.mul_zero, Nat.add_zero]) ha hb hc
  refine ⟨?_, h.2⟩
  rw [h.1]; omega

theorem y_bounds (x y1 y2 : Nat) (h1 : y1 = (x / 2 &&& 6148914691236517205) + (x &&& 6148914691236517205)) (h2 : y2 = (y1 / 4 &&& 3689348814741910323) + (y1 &&& 3689348814741910323)) :
    y1 < 2 ^ 64 ∧ y2 < 2 ^ 63 ∧ y2 / 16 + y2 < 2 ^ 64 := by
  have a1 : (x / 2 &&& 6148914691236517205) ≤ 6148914691236517205 := Nat.and_le_right
  have a2 : (x &&& 6148914691236517205) ≤ 6148914691236517205 := Nat.and_le_right
  have a3 : (y1 / 4 &&& 3689348814741910323) ≤ 3689348814741910323 := Nat.and_le_right
  have a4 : (y1 &&& 3689348814741910323) ≤ 3689348814741910323 := Nat.and_le_right
  omega

/-- a word more -/
theorem cnt_word (ws : List Nat) (k : Nat) : cnt (bitAt ws) (64 * (k + 1)) = cnt (bitAt ws) (64 * k) + cnt (ws.getD k 0).testBit 64 := by
  rw [show 64 * (k + 1) = 64 * k + 64 by omega, cnt_add]
  congr 1
  refine cnt_congr _ fun i hi => ?_
  unfold bitAt
  rw [show (64 * k + i) / 64 = k by omega, show (64 * k + i) % 64 = i by omega]
theorem cnt_all {n : Nat} {ws : List Nat} (h : Ok n ws) : cnt (bitAt ws) (64 * ws.length) = cnt (bitAt ws) n := by
  have hl : n ≤ 64 * ws.length := by rw [h.len]; unfold nw; omega
  obtain ⟨d, hd⟩ : ∃ d, 64 * ws.length = n + d := ⟨64 * ws.length - n, by omega⟩
  rw [hd, cnt_add, cnt_none d (fun i _ => h.tail (n + i) (by omega)), Nat.add_zero]

/-- sizes of a union and an intersection -/
theorem cnt_or_and (f g : Nat → Bool) (n : Nat) : cnt (fun i => f i || g i) n + cnt (fun i => f i && g i) n = cnt f n + cnt g n := by
  induction n with
  | zero => rfl
  | succ n ih =>
    rw [cnt_succ, cnt_succ, cnt_succ, cnt_succ]
    cases f n <;> cases g n <;> simp <;> omega
theorem cnt_not (f : Nat → Bool) (n : Nat) : cnt f n + cnt (fun i => !f i) n = n := by
  induction n with
  | zero => rfl
  | succ n ih =>
    rw [cnt_succ, cnt_succ]
    cases f n <;> simp <;> omega
end Go.Proofs.Ytcckocaaoklibaa.Kb
