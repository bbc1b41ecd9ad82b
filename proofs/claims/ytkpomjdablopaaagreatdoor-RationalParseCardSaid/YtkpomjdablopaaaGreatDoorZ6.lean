/- My texts, packed: Wn, Dz, D2. -/
import Derived.Test.YtkpomjdablopaaaGreatDoorZ5
import Derived.Test.YtkpomjdablopaaaGreatDoorZ3
import Derived.Test.YtkpomjdablopaaaGreatDoorZ2
import Derived.Test.YtkpomjdablopaaaGreatDoorZ1
import Derived.Deep.AppendLies
/- Walks: the reference's Mul. -/
namespace Go.Proofs.YtkpomjdablopaaaGreatDoor
open Go.RowKit
set_option linter.unusedVariables false

set_option maxRecDepth 100000 in
set_option maxHeartbeats 2000000 in
theorem rmul_any (nx : Bool) (A : Option Addr) (ca : Nat) (xs : List Nat) (ny : Bool) (B : Option Addr) (cb : Nat) (ys : List Nat) (w : World) (hx : Sl w w.heap.size A ca xs) (hy : Sl w w.heap.size B cb ys) (hlx : xs.length ≤ 1000000) (hly : ys.length ≤ 1000000) :
    Calls Tryz.prog 75 #[intV nx A xs.length ca, intV ny B ys.length cb] w (IntRes (Kn.iv nx xs * Kn.iv ny ys) w) := by
  have hdx : (Kn.dig (Kn.val xs)).length ≤ 1000000 := Nat.le_trans (Kn.dig_len_val hx.wd) hlx
  have hdy : (Kn.dig (Kn.val ys)).length ≤ 1000000 := Nat.le_trans (Kn.dig_len_val hy.wd) hly
  have hvx := Lib.hid (Kn.val_dig (Kn.val xs))
  have hvy := Lib.hid (Kn.val_dig (Kn.val ys))
  have hdl := dig_len_mul hx.wd hy.wd
  obtain ⟨z, hz⟩ : ∃ z : Int, z = Kn.iv nx xs * Kn.iv ny ys := ⟨_, rfl⟩
  rw [← hz]
  have HZ := Lib.hid hz
  clear hz
  unfold intV
  go_enter Tryz.func75, Tryz.ntmps75
  go_wp2_with fail
  have i := B3.new_ w nx A xs.length ca ny B ys.length cb 24
  revert i
  generalize ((w.alloc (.cells #[.bool nx, .slice A xs.length ca] 24)).alloc (.cells #[.bool ny, .slice B ys.length cb] 24)).alloc (.cells #[.bool false, .slice none 0 0] 24) = wx
  intro i
  replace i := i.drew
  go_region_held3 (fun w' => w'.cell? ⟨w.heap.size, 0, none⟩ = some (.bool nx) ∧ w'.cell? ⟨w.heap.size, 1, none⟩ = some (.slice A xs.length ca) ∧ w'.cell? ⟨w.heap.size + 1, 0, none⟩ = some (.bool ny) ∧ w'.cell? ⟨w.heap.size + 1, 1, none⟩ = some (.slice B ys.length cb))
    (first | exact ⟨i.t1.c0, i.t1.c1, i.t2.c0, i.t2.c1⟩ | exact ⟨((i.t1.far (by simp; omega) _).far (by simp; omega) _).c0, ((i.t1.far (by simp; omega) _).far (by simp; omega) _).c1, ((i.t2.far (by simp) _).far (by simp) _).c0, ((i.t2.far (by simp) _).far (by simp) _).c1⟩)
    (first
      | (go_at_call 66; (with_reducible refine (rtrim_any A ca xs _ ((hx.below i.bel).more i.bel.size) (by omega)).mono ?_); rintro e wA ⟨A2, c2, rfl, hSx, hbx⟩; replace i := i.below hbx; (try (replace hSy := hSy.at_ hbx (Nat.le_refl _))))
      | (go_at_call 66; (with_reducible refine (rtrim_any B cb ys _ ((hy.below i.bel).more i.bel.size) (by omega)).mono ?_); rintro e wB ⟨B2, d2, rfl, hSy, hby⟩; replace i := i.below hby; (try (replace hSx := hSx.at_ hby (Nat.le_refl _))))
      | (go_at_call 114; refine (rmulWords_any A2 c2 _ B2 d2 _ _ hSx hSy hdx hdy).mono ?_; rintro e w3 ⟨A3, c3, rfl, hS, hb3⟩; replace i := i.below hb3; rw [hvx.out, hvy.out] at hS ⊢)
      | (go_at_call 76; refine (made_any (nx != ny) A3 c3 _ _ hS (by omega)).mono ?_; rintro e w4 ⟨A4, c4, rfl, hS4, hb4⟩; replace i := i.below hb4; have d20 := i.t3.c0; have d21 := i.t3.c1; have f20 := i.t3.fr 0; have f21 := i.t3.fr 1))
  all_goals
    rw [show Kn.iv (nx != ny) (Kn.dig (Kn.val xs * Kn.val ys)) = z by rw [HZ.out, iv_mul]] at hS4 ⊢
    have R := Lib.hid (two_set w4 (.bool (decide (z < 0))) (.slice A4 (Kn.dig z.natAbs).length c4) d20 d21)
    clear d20 d21 f20 f21
    go_wp2_with fail
    obtain ⟨r0, r1⟩ := R.out
    refine bodyPost_ret (v := .agg #[.bool (decide (z < 0)), .slice A4 (Kn.dig z.natAbs).length c4]) (by simp [results, Tryz.results75, go_sem, r0, r1]) rfl ?_
    exact i.fin hS4

theorem grmul {W : World} {p q : Bool} {A B : Option Addr} {c d n k : Nat} {l m : List Nat} {x y : Int} (h1 : Iv W p A c l x n) (h2 : Iv W q B d m y k) (hn : n ≤ 100) (hk : k ≤ 100) : Calls Tryz.prog 75 #[.agg #[.bool p, .slice A l.length c], .agg #[.bool q, .slice B m.length d]] W (GI (x * y) (n + k) W) := by
  have h := rmul_any p A c l q B d m W h1.sl h2.sl (by have := h1.len; omega) (by have := h2.len; omega)
  rw [h1.val, h2.val] at h
  exact h.mono fun _ _ hr => GI.of hr (by rw [Int.natAbs_mul, Kn.pw_add]; exact Nat.mul_lt_mul'' h1.abs h2.abs)
end Go.Proofs.YtkpomjdablopaaaGreatDoor
/- Long division word by word: plain mathematics, of no program. -/
namespace Go.Proofs.YtkpomjdablopaaaGreatDoor.Kn

/-- one step of p - f * d -/
theorem subm_step {p us d : List Nat} {k f product borrow x q r bo : Nat} (hk : k < us.length) (hx : x = p.getD k 0)
    (hi : val (us.take k) + f * val (d.take k) = val (p.take k) + pw k * (product + borrow))
    (hq : q = product + f * d.getD k 0) (hr : r + q % 4294967296 + borrow = x + 4294967296 * bo) :
    val ((us.set k r).take (k + 1)) + f * val (d.take (k + 1)) = val (p.take (k + 1)) + pw (k + 1) * (q / 4294967296 + bo) := by
  rw [val_set_take _ _ hk, val_take_step p, val_take_step d, ← hx]
  have h2 := pw_divmod k q
  have e2 : pw k * q = pw k * product + f * (pw k * d.getD k 0) := by rw [hq, Nat.mul_add, Nat.mul_left_comm f]
  have e3 : pw k * r + pw k * (q % 4294967296) + pw k * borrow = pw k * x + pw (k + 1) * bo := by
    rw [← Nat.mul_add, ← Nat.mul_add, hr, Nat.mul_add, pw_succ, Nat.mul_comm 4294967296 (pw k), Nat.mul_assoc]
  rw [Nat.mul_add (pw k)] at hi
  rw [Nat.mul_add f, Nat.mul_add (pw (k + 1))]
  omega

/-- a word of a difference with a borrow -/
theorem sub_word (x lo bo : Nat) (hx : x < 4294967296) (hl : lo < 4294967296) (hb : bo ≤ 1) : ∃ r bo' : Nat, r + lo + bo = x + 4294967296 * bo' ∧ r < 4294967296 ∧ bo' ≤ 1 ∧
    (((x : Int) - (lo : Int) - (bo : Int)) % 18446744073709551616) % 4294967296 = (r : Int) ∧ (((x : Int) - (lo : Int) - (bo : Int)) % 18446744073709551616) / 9223372036854775808 = (bo' : Int) := by
  by_cases h : lo + bo ≤ x
  · exact ⟨x - lo - bo, 0, by omega, by omega, by omega, by omega, by omega⟩
  · exact ⟨x + 4294967296 - lo - bo, 1, by omega, by omega, by omega, by omega, by omega⟩

/-- the leading words of a row -/
theorem val_top1 {l : List Nat} {n : Nat} (hl : l.length = n + 1) : val l = val (l.take n) + pw n * l.getD n 0 := by
  have := val_take_succ l (k := n) (by omega)
  rwa [List.take_of_length_le (by omega)] at this
theorem val_top2 {l : List Nat} {n : Nat} (hl : l.length = n + 2) : val l = val (l.take n) + pw n * (l.getD n 0 + 4294967296 * l.getD (n + 1) 0) := by
  rw [val_top1 (n := n + 1) hl, val_take_succ l (k := n) (by omega), pw_succ, Nat.mul_add, Nat.mul_assoc, Nat.mul_left_comm (pw n)]
  omega
theorem val_top3 {l : List Nat} {n : Nat} (hl : l.length = n + 3) : val l = val (l.take n) + pw n * (l.getD n 0 + 4294967296 * (l.getD (n + 1) 0 + 4294967296 * l.getD (n + 2) 0)) := by
  have h := val_top2 (l := l) (n := n + 1) (by omega)
  rw [val_take_succ l (k := n) (by omega), pw_succ, Nat.mul_assoc 4294967296, Nat.mul_left_comm 4294967296 (pw n), show n + 1 + 1 = n + 2 from rfl] at h
  rw [Nat.mul_add]
  omega

/-- what a step of long division is about: the part U, the divisor D, their leading words -/
structure LD (U D P v1 v2 u2 top : Nat) : Prop where
  d : P * (v2 + 4294967296 * v1) ≤ D
  d' : D < P * (v2 + 4294967296 * v1) + P
  u : P * (u2 + 4294967296 * top) ≤ U
  u' : U < P * (u2 + 4294967296 * top) + P
  q : U < 4294967296 * D
  hv1 : 2147483648 ≤ v1
  hv1' : v1 < 4294967296
  hv2 : v2 < 4294967296
  hu2 : u2 < 4294967296
namespace LD
variable {U D P v1 v2 u2 top : Nat}
theorem p (h : LD U D P v1 v2 u2 top) : 0 < P := by
  rcases Nat.eq_zero_or_pos P with h0 | h0
  · have := h.d'; rw [h0] at this; omega
  · exact h0
theorem top_lt (h : LD U D P v1 v2 u2 top) : top < 4294967296 * (v1 + 1) := by
  have h1 := h.u
  have h2 := h.d'
  have h3 := h.q
  have hp := h.p
  have e1 : P * (u2 + 4294967296 * top) = P * u2 + 4294967296 * (P * top) := by rw [Nat.mul_add, Nat.mul_left_comm]
  have e2 : P * (v2 + 4294967296 * v1) = P * v2 + 4294967296 * (P * v1) := by rw [Nat.mul_add, Nat.mul_left_comm]
  have h4 : P * v2 + P ≤ P * 4294967296 := by rw [← Nat.mul_succ]; exact Nat.mul_le_mul_left _ h.hv2
  have h5 : P * top < P * (4294967296 * (v1 + 1)) := by
    rw [Nat.mul_left_comm, Nat.mul_add]; omega
  exact Nat.lt_of_mul_lt_mul_left h5
theorem guess0 (h : LD U D P v1 v2 u2 top) : top / v1 ≤ 4294967297 := by
  have h1 := h.top_lt
  have h2 := h.hv1
  refine Nat.le_of_lt_succ (Nat.div_lt_of_lt_mul ?_)
  have : v1 * Nat.succ 4294967297 = 4294967296 * v1 + 2 * v1 := by omega
  rw [this]; omega
/-- the guess is never too low -/
theorem start (h : LD U D P v1 v2 u2 top) : U < (top / v1 + 1) * D := by
  have h1 : top < (top / v1 + 1) * v1 := by
    have := Nat.lt_mul_div_succ top (show 0 < v1 by have := h.hv1; omega)
    rwa [Nat.mul_comm] at this
  obtain ⟨g, hg⟩ : ∃ g, g = top / v1 + 1 := ⟨_, rfl⟩
  rw [← hg] at h1 ⊢
  have h2 : g * (P * (v2 + 4294967296 * v1)) ≤ g * D := Nat.mul_le_mul_left _ h.d
  have h3 : P * (u2 + 4294967296 * top) + P ≤ g * (P * (v2 + 4294967296 * v1)) := by
    have e : g * (P * (v2 + 4294967296 * v1)) = P * (g * v2 + 4294967296 * (g * v1)) := by
      rw [Nat.mul_left_comm, Nat.mul_add g, Nat.mul_left_comm g]
    rw [e, ← Nat.mul_succ]
    refine Nat.mul_le_mul_left _ ?_
    have := h.hu2
    omega
  have := h.u'
  omega
/-- a guess that must be lowered is too high -/
theorem lower (h : LD U D P v1 v2 u2 top) {g r : Nat} (hg : g * v1 + r = top) (hc : 4294967296 ≤ g ∨ r * 4294967296 + u2 < g * v2) : U < g * D := by
  rcases hc with hc | hc
  · exact Nat.lt_of_lt_of_le h.q (Nat.mul_le_mul_right _ hc)
  · have h2 : g * (P * (v2 + 4294967296 * v1)) ≤ g * D := Nat.mul_le_mul_left _ h.d
    have e : g * (P * (v2 + 4294967296 * v1)) = P * (g * v2 + 4294967296 * (g * v1)) := by
      rw [Nat.mul_left_comm, Nat.mul_add g, Nat.mul_left_comm g]
    have h3 : P * (u2 + 4294967296 * top) + P ≤ P * (g * v2 + 4294967296 * (g * v1)) := by
      rw [← Nat.mul_succ]; exact Nat.mul_le_mul_left _ (by omega)
    have := h.u'
    omega
/-- at the end the guess is a word, and at most one too high -/
theorem word (h : LD U D P v1 v2 u2 top) {g r : Nat} (hg : g * v1 + r = top) (hc : 4294967296 ≤ r ∨ g < 4294967296) : g < 4294967296 := by
  rcases hc with hc | hc
  · have h1 := h.top_lt
    rw [← Nat.not_le]
    intro hx
    have : 4294967296 * v1 ≤ g * v1 := Nat.mul_le_mul_right _ hx
    omega
  · exact hc
theorem near (h : LD U D P v1 v2 u2 top) {g r : Nat} (hg : g * v1 + r = top) (hgl : g < 4294967296) (hc : 4294967296 ≤ r ∨ g * v2 ≤ r * 4294967296 + u2) : g * D < U + D := by
  have hc' : g * v2 ≤ r * 4294967296 + u2 := by
    rcases hc with hc | hc
    · have h1 : g * v2 ≤ 4294967296 * 4294967296 := Nat.mul_le_mul (by omega) (by have := h.hv2; omega)
      omega
    · exact hc
  have h1 : g * D ≤ g * (P * (v2 + 4294967296 * v1) + P) := Nat.mul_le_mul_left _ (by have := h.d'; omega)
  have e : g * (P * (v2 + 4294967296 * v1) + P) = P * (g * v2 + 4294967296 * (g * v1)) + P * g := by
    rw [Nat.mul_add g, Nat.mul_left_comm g, Nat.mul_add g, Nat.mul_left_comm g, Nat.mul_comm g P]
  have h3 : P * (g * v2 + 4294967296 * (g * v1)) ≤ P * (u2 + 4294967296 * top) := Nat.mul_le_mul_left _ (by omega)
  have h4 : P * g < P * (v2 + 4294967296 * v1) := Nat.mul_lt_mul_of_pos_left (by have := h.hv1; omega) h.p
  have := h.u
  have := h.d
  omega
end LD

/-- what is left after the guess has been taken away -/
theorem step_end {U D f u bo X : Nat} (hX : u < X) (h : u + f * D = U + X * bo) (hb : bo ≤ 1) (h1 : U < (f + 1) * D) (h2 : f * D < U + D) (hD : D ≤ X) :
    (bo = 0 → U = f * D + u ∧ u < D) ∧ (bo = 1 → 0 < f ∧ ∀ u' c, u' < X → u' + X * c = u + D → U = (f - 1) * D + u' ∧ u' < D) := by
  rw [Nat.add_mul, Nat.one_mul] at h1
  refine ⟨fun e => ?_, fun e => ?_⟩
  · subst e; rw [Nat.mul_zero] at h; omega
  · subst e
    rw [Nat.mul_one] at h
    have hf : 0 < f := by
      rcases Nat.eq_zero_or_pos f with h0 | h0
      · rw [h0, Nat.zero_mul] at h; omega
      · exact h0
    refine ⟨hf, fun u' c hu hc => ?_⟩
    have e : f * D = (f - 1) * D + D := by rw [← Nat.succ_mul, Nat.succ_eq_add_one, Nat.sub_add_cancel hf]
    have hcc : c = 1 := by
      rcases Nat.lt_or_ge c 1 with h3 | h3
      · have : c = 0 := by omega
        subst this
        rw [Nat.mul_zero] at hc
        omega
      · rcases Nat.lt_or_ge 1 c with h4 | h4
        · have : X * 2 ≤ X * c := Nat.mul_le_mul_left _ h4
          omega
        · omega
    subst hcc
    rw [Nat.mul_one] at hc
    omega

/-- a window of a row -/
theorem set_mid (pre us post : List Nat) {k : Nat} (hk : k < us.length) (x : Nat) : (pre ++ us ++ post).set (pre.length + k) x = pre ++ us.set k x ++ post := by
  rw [List.append_assoc, List.set_append_right _ _ (by omega), Nat.add_sub_cancel_left, List.set_append_left _ _ hk, List.append_assoc]
theorem getD_mid (pre us post : List Nat) {k : Nat} (hk : k < us.length) : (pre ++ us ++ post).getD (pre.length + k) 0 = us.getD k 0 := by
  rw [List.append_assoc, List.getD_eq_getElem?_getD, List.getElem?_append_right (by omega), Nat.add_sub_cancel_left, List.getElem?_append_left hk, List.getD_eq_getElem?_getD]
theorem mid_eq (vs : List Nat) (i n : Nat) : vs.take i ++ (vs.drop i).take n ++ vs.drop (i + n) = vs := by
  rw [List.append_assoc, ← List.drop_drop, List.take_append_drop, List.take_append_drop]

/-- one word of a long division: A' = vs + D * (β^k * qs from k on) -/
theorem long_step {A D i n q : Nat} {vs qs us : List Nat} (hi : i < qs.length) (hn : i + (n + 1) ≤ vs.length) (hD : D < pw n)
    (hA : A = val vs + D * (pw (i + 1) * val (qs.drop (i + 1)))) (hv : val (vs.drop (i + 1)) < D)
    (hq : val ((vs.drop i).take (n + 1)) = q * D + val us) (hul : us.length = n + 1) (hus : val us < D) :
    A = val (vs.take i ++ us ++ vs.drop (i + (n + 1))) + D * (pw i * val ((qs.set i q).drop i)) ∧ val ((vs.take i ++ us ++ vs.drop (i + (n + 1))).drop i) < D := by
  have h0 : val (vs.drop (i + (n + 1))) = 0 := by
    have h1 := val_split (vs.drop (i + 1)) n (by rw [List.length_drop]; omega)
    rw [List.drop_drop, show i + 1 + n = i + (n + 1) by omega] at h1
    rcases Nat.eq_zero_or_pos (val (vs.drop (i + (n + 1)))) with h | h
    · exact h
    · have : pw n * 1 ≤ pw n * val (vs.drop (i + (n + 1))) := Nat.mul_le_mul_left _ h
      omega
  have hti : (vs.take i).length = i := by rw [List.length_take]; omega
  have hvs : val vs = val (vs.take i) + pw i * (q * D + val us) := by
    have h1 := val_split vs i (by omega)
    have h2 := val_split (vs.drop i) (n + 1) (by rw [List.length_drop]; omega)
    rw [List.drop_drop, h0, Nat.mul_zero, Nat.add_zero] at h2
    rw [h1, h2, hq]
  have hvs' : val (vs.take i ++ us ++ vs.drop (i + (n + 1))) = val (vs.take i) + pw i * val us := by
    rw [val_append, val_append, h0, Nat.mul_zero, Nat.add_zero, hti]
  have hqs : val ((qs.set i q).drop i) = q + 4294967296 * val (qs.drop (i + 1)) := by
    rw [drop_cons (qs.set i q) (by rw [List.length_set]; exact hi), val_cons, getD_set _ _ _ _ hi, if_pos rfl, drop_set _ _ (by omega)]
  refine ⟨?_, ?_⟩
  · rw [hA, hvs, hvs', hqs, pw_succ, Nat.mul_add (pw i), Nat.mul_add (pw i) q, Nat.mul_add D, Nat.mul_left_comm (pw i) 4294967296, Nat.mul_assoc 4294967296, Nat.mul_comm q D, Nat.mul_left_comm (pw i) D q]
    omega
  · rw [List.append_assoc, List.drop_left' hti, val_append, h0, Nat.mul_zero, Nat.add_zero]; exact hus

/-- a shifted quotient -/
theorem shift_end {n m s q r : Nat} (hm : 0 < m) (h : n * 2 ^ s = r + (m * 2 ^ s) * q) (hr : r < m * 2 ^ s) : q = n / m ∧ r / 2 ^ s = n % m := by
  have hp : 0 < 2 ^ s := Nat.pow_pos (by decide)
  have h1 : (n * 2 ^ s) / (m * 2 ^ s) = n / m := Nat.mul_div_mul_right _ _ hp
  have h2 : (n * 2 ^ s) / (m * 2 ^ s) = q := by
    rw [h, Nat.add_mul_div_left _ _ (Nat.mul_pos hm hp), Nat.div_eq_of_lt hr, Nat.zero_add]
  have h3 : (n * 2 ^ s) % (m * 2 ^ s) = r := by rw [h, Nat.add_mul_mod_self_left, Nat.mod_eq_of_lt hr]
  refine ⟨by rw [← h2, h1], ?_⟩
  rw [← h3, Nat.mul_mod_mul_right, Nat.mul_div_cancel _ hp]

theorem or_low (m : Nat) {x : Nat} (hx : x < 4294967296) : m * 4294967296 ||| x = m * 4294967296 + x := by
  have h := Nat.shiftLeft_add_eq_or_of_lt (i := 32) (show x < 2 ^ 32 by omega) m
  rw [Nat.shiftLeft_eq] at h
  rw [← h]
/-- shifting up, one word -/
theorem up_step {a vs : List Nat} {k cr s t : Nat} (hk : k < vs.length) (hi : val (vs.take k) + pw k * cr = val (a.take k) * 2 ^ s) (ht : t = cr + a.getD k 0 * 2 ^ s) :
    val ((vs.set k (t % 4294967296)).take (k + 1)) + pw (k + 1) * (t / 4294967296) = val (a.take (k + 1)) * 2 ^ s := by
  rw [val_set_take _ _ hk, val_take_step a]
  have h := pw_divmod k t
  have e : pw k * t = pw k * cr + pw k * a.getD k 0 * 2 ^ s := by rw [ht, Nat.mul_add, Nat.mul_assoc]
  rw [Nat.add_mul]
  omega
theorem up_word {cr x s : Nat} (hs : s ≤ 31) (hc : cr < 2 ^ s) (hx : x < 4294967296) : cr ||| x * 2 ^ s = cr + x * 2 ^ s ∧ cr + x * 2 ^ s < 9223372036854775808 ∧ (cr + x * 2 ^ s) / 4294967296 < 2 ^ s := by
  have h := Nat.shiftLeft_add_eq_or_of_lt (i := s) hc x
  rw [Nat.shiftLeft_eq, Nat.or_comm] at h
  have hp : 2 ^ s ≤ 2 ^ 31 := Nat.pow_le_pow_right (by decide) hs
  have h1 : (x + 1) * 2 ^ s ≤ 4294967296 * 2 ^ s := Nat.mul_le_mul_right _ hx
  rw [Nat.add_mul, Nat.one_mul] at h1
  refine ⟨by rw [← h]; omega, by omega, Nat.div_lt_of_lt_mul (by omega)⟩
/-- shifting down, one word -/
theorem down_word {V aj s : Nat} (hs : s ≤ 31) (ha : aj < 4294967296) : ((V % 4294967296 * 4294967296 + aj) / 2 ^ s) % 4294967296 + 4294967296 * (V / 2 ^ s) = (aj + 4294967296 * V) / 2 ^ s := by
  have hp : 0 < 2 ^ s := Nat.pow_pos (by decide)
  have hd : 2 ^ s ∣ 4294967296 := ⟨2 ^ (32 - s), by rw [← Nat.pow_add, show s + (32 - s) = 32 by omega]⟩
  have hm : V % 4294967296 % 2 ^ s = V % 2 ^ s := Nat.mod_mod_of_dvd _ hd
  obtain ⟨hk, hhk⟩ : ∃ h, h = V % 4294967296 := ⟨_, rfl⟩
  rw [← hhk] at hm ⊢
  have e1 := Nat.div_add_mod V (2 ^ s)
  have e2 := Nat.div_add_mod hk (2 ^ s)
  have hlt : V % 2 ^ s < 2 ^ s := Nat.mod_lt _ hp
  have r : aj + 4294967296 * V = aj + 4294967296 * (V % 2 ^ s) + 2 ^ s * (4294967296 * (V / 2 ^ s)) := by
    rw [Nat.mul_left_comm]; omega
  have l : hk * 4294967296 + aj = aj + 4294967296 * (V % 2 ^ s) + 2 ^ s * (4294967296 * (hk / 2 ^ s)) := by
    rw [Nat.mul_left_comm, ← hm]; omega
  rw [r, l, Nat.add_mul_div_left _ _ hp, Nat.add_mul_div_left _ _ hp, Nat.add_mul_mod_self_left, Nat.mod_eq_of_lt]
  refine Nat.div_lt_of_lt_mul ?_
  have : 4294967296 * (V % 2 ^ s + 1) ≤ 4294967296 * 2 ^ s := Nat.mul_le_mul_left _ hlt
  rw [Nat.mul_comm (2 ^ s)]
  omega
theorem val_drop_step' (l : List Nat) {k : Nat} (h : k < l.length) : val (l.drop k) = l.getD k 0 + 4294967296 * val (l.drop (k + 1)) := by
  rw [drop_cons l h, val_cons]
theorem drop_set_here (l : List Nat) {k x : Nat} (h : k < l.length) : val ((l.set k x).drop k) = x + 4294967296 * val (l.drop (k + 1)) := by
  rw [drop_cons (l.set k x) (by rw [List.length_set]; exact h), val_cons, getD_set _ _ _ _ h, if_pos rfl, drop_set _ _ (by omega)]
theorem val_mod (l : List Nat) (h : Wd l) : val l % 4294967296 = l.getD 0 0 := by
  cases l with
  | nil => rfl
  | cons x l => rw [val_cons, Nat.add_mul_mod_self_left, Nat.mod_eq_of_lt h.head]; rfl
theorem val_drop_mod (l : List Nat) (h : Wd l) (k : Nat) : val (l.drop k) % 4294967296 = l.getD k 0 := by
  rw [val_mod _ (h.drop k), List.getD_eq_getElem?_getD, List.getElem?_drop, List.getD_eq_getElem?_getD]; rfl
theorem down_step {a vs : List Nat} {j s : Nat} (hs : s ≤ 31) (ha : Wd a) (hj : j < a.length) (hv : j < vs.length) (hi : val (vs.drop (j + 1)) = val (a.drop (j + 1)) / 2 ^ s) :
    val ((vs.set j (((a.getD (j + 1) 0 * 4294967296 + a.getD j 0) / 2 ^ s) % 4294967296)).drop j) = val (a.drop j) / 2 ^ s := by
  rw [drop_set_here _ hv, hi, val_drop_step' a hj, ← down_word hs (ha.getD j), val_drop_mod a ha]
/-- dividing by a word, one step -/
theorem dw_step {a vs : List Nat} {j n rest q r : Nat} (hj : j < a.length) (hv : j < vs.length) (hi : val (a.drop (j + 1)) = n * val (vs.drop (j + 1)) + rest) (hq : rest * 4294967296 + a.getD j 0 = n * q + r) :
    val (a.drop j) = n * val ((vs.set j q).drop j) + r := by
  rw [drop_set_here _ hv, val_drop_step' a hj, hi, Nat.mul_add n, Nat.mul_left_comm n]
  omega

/-- what the rows of a long division begin with -/
theorem shiftdiv_setup {N M s : Nat} (hn : 2 ≤ (dig M).length) (h1 : 2147483648 ≤ (dig M).getD ((dig M).length - 1) 0 * 2 ^ s) (h2 : (dig M).getD ((dig M).length - 1) 0 * 2 ^ s < 4294967296) :
    M * 2 ^ s < pw (dig M).length ∧ (∀ d, Wd d → d.length = (dig M).length → val d = M * 2 ^ s → 2147483648 ≤ d.getD ((dig M).length - 1) 0) ∧
    (∀ vs, Wd vs → vs.length = (dig N).length + 1 → val vs = N * 2 ^ s → (dig M).length ≤ (dig N).length → val (vs.drop ((dig N).length - (dig M).length + 1)) < M * 2 ^ s) := by
  obtain ⟨k, hk⟩ : ∃ k, (dig M).length = k + 1 := ⟨(dig M).length - 1, by omega⟩
  obtain ⟨l, hl⟩ : ∃ l, l = dig M := ⟨_, rfl⟩
  have hwl : Wd l := by rw [hl]; exact dig_wd M
  have hv : val l = M := by rw [hl]; exact val_dig M
  rw [← hl] at hk h1 h2 hn ⊢
  rw [hk, Nat.add_sub_cancel] at h1 h2 ⊢
  obtain ⟨t, ht⟩ : ∃ t, t = l.getD k 0 := ⟨_, rfl⟩
  rw [← ht] at h1 h2
  have e := val_top1 hk
  rw [hv, ← ht] at e
  have hlow := val_take_lt hwl k
  have hp : 0 < 2 ^ s := Nat.pow_pos (by decide)
  have hup : M + 1 ≤ pw k * (t + 1) := by rw [Nat.mul_add]; omega
  have hdiv : ∃ m, 4294967296 = m * 2 ^ s := by
    have hs : s ≤ 32 := by
      rw [← Nat.not_lt]
      intro hc
      have h3 : 2 ^ 32 * 2 ≤ 2 ^ s := by
        have := Nat.pow_le_pow_right (n := 2) (by decide) hc
        rwa [Nat.succ_eq_add_one, Nat.pow_succ] at this
      have h4 : 1 * 2 ^ s ≤ t * 2 ^ s := Nat.mul_le_mul_right _ (by
        rcases Nat.eq_zero_or_pos t with h0 | h0
        · rw [h0, Nat.zero_mul] at h1; omega
        · exact h0)
      omega
    exact ⟨2 ^ (32 - s), by rw [← Nat.pow_add, show 32 - s + s = 32 by omega]⟩
  have hlt1 : (t + 1) * 2 ^ s ≤ 4294967296 := by
    obtain ⟨m, hm⟩ := hdiv
    rw [hm] at h2 ⊢
    exact Nat.mul_le_mul_right _ (Nat.lt_of_mul_lt_mul_right h2)
  have hMs : M * 2 ^ s < pw (k + 1) := by
    have h3 : (M + 1) * 2 ^ s ≤ pw k * (t + 1) * 2 ^ s := Nat.mul_le_mul_right _ hup
    rw [Nat.mul_assoc] at h3
    have h4 : pw k * ((t + 1) * 2 ^ s) ≤ pw k * 4294967296 := Nat.mul_le_mul_left _ hlt1
    rw [pw_succ, Nat.mul_comm 4294967296]
    rw [Nat.add_mul, Nat.one_mul] at h3
    omega
  have hMge : pw k * 2147483648 ≤ M * 2 ^ s := by
    have h3 : pw k * t * 2 ^ s ≤ M * 2 ^ s := Nat.mul_le_mul_right _ (by omega)
    rw [Nat.mul_assoc] at h3
    exact Nat.le_trans (Nat.mul_le_mul_left _ h1) h3
  refine ⟨hMs, fun d hw hd hvd => ?_, fun vs hw hlv hvv hle => ?_⟩
  · have e2 := val_top1 hd
    have h3 := val_take_lt hw k
    rw [hvd] at e2
    rw [← Nat.not_lt]
    intro hc
    have h4 : pw k * (d.getD k 0 + 1) ≤ pw k * 2147483648 := Nat.mul_le_mul_left _ hc
    rw [Nat.mul_add] at h4
    omega
  · have h3 := val_split vs ((dig N).length - (k + 1) + 1) (by omega)
    rw [hvv] at h3
    have h4 : N * 2 ^ s < pw (dig N).length * 2 ^ s := Nat.mul_lt_mul_of_pos_right dig_lt hp
    have h5 : pw (dig N).length = pw ((dig N).length - (k + 1) + 1) * pw k := by rw [← pw_add]; congr 1; omega
    have h6 : pw ((dig N).length - (k + 1) + 1) * val (vs.drop ((dig N).length - (k + 1) + 1)) < pw ((dig N).length - (k + 1) + 1) * (pw k * 2 ^ s) := by
      rw [← Nat.mul_assoc, ← h5]; omega
    have h7 := Nat.lt_of_mul_lt_mul_left h6
    have h8 : pw k * 2 ^ s ≤ M * 2 ^ s := Nat.mul_le_mul_right _ (by
      have : pw k * 1 ≤ pw k * t := Nat.mul_le_mul_left _ (by
        rcases Nat.eq_zero_or_pos t with h0 | h0
        · rw [h0, Nat.zero_mul] at h1; omega
        · exact h0)
      omega)
    omega

theorem val_take_le (l : List Nat) (k : Nat) : val (l.take k) ≤ val l := by
  by_cases h : k ≤ l.length
  · rw [val_split l k h]; omega
  · rw [List.take_of_length_le (by omega)]; omega
theorem long_pre {vs : List Nat} {j n D : Nat} (hw : Wd vs) (hj : j < vs.length) (hv : val (vs.drop (j + 1)) < D) : val ((vs.drop j).take (n + 1)) < 4294967296 * D := by
  rw [drop_cons vs hj, List.take_succ_cons, val_cons]
  have h1 := hw.getD j
  have h2 := val_take_le (vs.drop (j + 1)) n
  omega
theorem val_take_small {d : List Nat} {n : Nat} (hl : d.length = n + 1) (hv : val d < pw n) : val (d.take n) = val d := by
  have h := val_top1 hl
  rcases Nat.eq_zero_or_pos (d.getD n 0) with h0 | h0
  · rw [h0, Nat.mul_zero] at h; omega
  · have : pw n * 1 ≤ pw n * d.getD n 0 := Nat.mul_le_mul_left _ h0
    omega

/-- halving finds the word of the quotient -/
theorem half_step {M T lo hi mid : Nat} (h1 : M * lo ≤ T) (h2 : T < M * hi) (hm : mid = (lo + hi) / 2) (hlt : lo + 1 < hi) :
    lo < mid ∧ mid < hi ∧ (M * mid ≤ T → M * mid ≤ T ∧ T < M * hi) ∧ (T < M * mid → M * lo ≤ T ∧ T < M * mid) := ⟨by omega, by omega, fun h => ⟨h, h2⟩, fun h => ⟨h1, h⟩⟩
theorem half_end {M T lo : Nat} (h1 : M * lo ≤ T) (h2 : T < M * (lo + 1)) : lo = T / M ∧ T - M * lo = T % M := by
  rw [Nat.mul_add, Nat.mul_one] at h2
  have hM : 0 < M := by omega
  have e : T = M * lo + (T - M * lo) := by omega
  have hl : T - M * lo < M := by omega
  constructor
  · rw [e, Nat.mul_add_div hM, Nat.div_eq_of_lt hl]; rfl
  · have h3 : T % M = (M * lo + (T - M * lo)) % M := by rw [← e]
    rw [h3, Nat.mul_add_mod, Nat.mod_eq_of_lt hl]
/-- what the reference's long division begins with: the words above -/
theorem top_lt {N M k : Nat} (hM : 0 < M) (hk : (dig N).length - k < (dig M).length) : val ((dig N).drop k) < M := by
  have h1 := val_lt ((dig_wd N).drop k)
  rw [List.length_drop] at h1
  have h2 := dig_ge hM
  have h3 := pw_mono (show (dig N).length - k ≤ (dig M).length - 1 by omega)
  omega
end Go.Proofs.YtkpomjdablopaaaGreatDoor.Kn
/- Floored quotients of integers in terms of their magnitudes: plain mathematics, of no program. -/
namespace Go.Proofs.YtkpomjdablopaaaGreatDoor.Kn

theorem fd_of {x y q r : Int} (h : x = y * q + r) (hr : (0 < y ∧ 0 ≤ r ∧ r < y) ∨ (y < 0 ∧ y < r ∧ r ≤ 0)) : x.fdiv y = q ∧ x.fmod y = r := by
  rcases hr with ⟨hy, h1, h2⟩ | ⟨hy, h1, h2⟩
  · exact (Int.fdiv_fmod_unique hy).2 ⟨by omega, h1, h2⟩
  · exact (Int.fdiv_fmod_unique' hy).2 ⟨by omega, h1, h2⟩
theorem nat_dm (X Y : Nat) : (X : Int) = (Y : Int) * ((X / Y : Nat) : Int) + ((X % Y : Nat) : Int) := by
  rw [← Int.natCast_mul, ← Int.natCast_add, Nat.div_add_mod]
theorem iv_d (p : Bool) (n : Nat) : iv p (dig n) = if p then -(n : Int) else (n : Int) := by unfold iv; rw [val_dig]
/-- equal signs -/
theorem fd_same (p : Bool) {xs ys : List Nat} (hy : 0 < val ys) : (iv p xs).fdiv (iv p ys) = iv false (dig (val xs / val ys)) ∧ (iv p xs).fmod (iv p ys) = iv p (dig (val xs % val ys)) := by
  have h := nat_dm (val xs) (val ys)
  have hl := Nat.mod_lt (val xs) hy
  rw [iv_d, iv_d]
  unfold iv
  obtain ⟨Q, hQ⟩ : ∃ Q, Q = val xs / val ys := ⟨_, rfl⟩
  obtain ⟨R, hR⟩ : ∃ R, R = val xs % val ys := ⟨_, rfl⟩
  rw [← hQ, ← hR] at h ⊢
  rw [← hR] at hl
  cases p
  · exact fd_of (by simpa using h) (Or.inl ⟨by simpa using hy, by simp, by simpa using hl⟩)
  · simp only [if_true, Bool.false_eq_true, if_false]
    exact fd_of (by rw [Int.neg_mul]; omega) (Or.inr ⟨by omega, by omega, by omega⟩)
/-- other signs, nothing left -/
theorem fd_diff0 {p q : Bool} (hpq : p ≠ q) {xs ys : List Nat} (hy : 0 < val ys) (h0 : val xs % val ys = 0) : (iv p xs).fdiv (iv q ys) = iv true (dig (val xs / val ys)) ∧ (iv p xs).fmod (iv q ys) = iv q (dig 0) := by
  have h := nat_dm (val xs) (val ys)
  rw [h0] at h
  rw [iv_d, iv_d]
  unfold iv
  obtain ⟨Q, hQ⟩ : ∃ Q, Q = val xs / val ys := ⟨_, rfl⟩
  rw [← hQ] at h ⊢
  cases p <;> cases q <;> first | exact absurd rfl hpq | skip
  · simp only [if_true, Bool.false_eq_true, if_false]
    exact fd_of (by rw [Int.neg_mul_neg]; omega) (Or.inr ⟨by omega, by omega, by omega⟩)
  · simp only [if_true, Bool.false_eq_true, if_false]
    exact fd_of (by rw [Int.mul_neg]; omega) (Or.inl ⟨by omega, by omega, by omega⟩)
/-- other signs, something left -/
theorem fd_diff1 {p q : Bool} (hpq : p ≠ q) {xs ys : List Nat} (hy : 0 < val ys) (h0 : 0 < val xs % val ys) : (iv p xs).fdiv (iv q ys) = iv true (dig (val xs / val ys + 1)) ∧ (iv p xs).fmod (iv q ys) = iv q (dig (val ys - val xs % val ys)) := by
  have h := nat_dm (val xs) (val ys)
  have hl := Nat.mod_lt (val xs) hy
  rw [iv_d, iv_d]
  unfold iv
  obtain ⟨Q, hQ⟩ : ∃ Q, Q = val xs / val ys := ⟨_, rfl⟩
  obtain ⟨R, hR⟩ : ∃ R, R = val xs % val ys := ⟨_, rfl⟩
  rw [← hQ, ← hR] at h ⊢
  rw [← hR] at hl h0
  have e : ((Q + 1 : Nat) : Int) = (Q : Int) + 1 := by omega
  have e2 : ((val ys - R : Nat) : Int) = (val ys : Int) - (R : Int) := by omega
  rw [e, e2]
  cases p <;> cases q <;> first | exact absurd rfl hpq | skip
  · simp only [if_true, Bool.false_eq_true, if_false]
    exact fd_of (by rw [Int.neg_mul_neg, Int.mul_add]; omega) (Or.inr ⟨by omega, by omega, by omega⟩)
  · simp only [if_true, Bool.false_eq_true, if_false]
    exact fd_of (by rw [Int.mul_neg, Int.mul_add]; omega) (Or.inl ⟨by omega, by omega, by omega⟩)
end Go.Proofs.YtkpomjdablopaaaGreatDoor.Kn
/- Lehmer's steps of Euclid's algorithm: plain mathematics, of no program. -/
namespace Go.Proofs.YtkpomjdablopaaaGreatDoor.Kn

/-- the steps with the leading bits x0, y0 alone -/
structure Sm (x0 y0 c a0 b0 a1 b1 x y : Nat) : Prop where
  even : c % 2 = 0 → a0 * x0 = x + b0 * y0 ∧ b1 * y0 = y + a1 * x0
  odd : c % 2 = 1 → b0 * y0 = x + a0 * x0 ∧ a1 * x0 = y + b1 * y0
  det : x0 = b1 * x + b0 * y
  yx : y ≤ x
  ab1 : a1 ≤ b1
  cb : c ≤ b1
  b1p : 1 ≤ b1
  st : (c = 0 ∧ a0 = 1 ∧ b0 = 0 ∧ a1 = 0 ∧ b1 = 1) ∨ (0 < c ∧ a0 ≤ b0 ∧ b1 ≤ y ∧ 1 ≤ b0 ∧ b0 ≤ b1)

/-- the same steps with the numbers themselves -/
structure Tr (A B c a0 b0 a1 b1 X Y : Nat) : Prop where
  even : c % 2 = 0 → a0 * A = X + b0 * B ∧ b1 * B = Y + a1 * A
  odd : c % 2 = 1 → b0 * B = X + a0 * A ∧ a1 * A = Y + b1 * B
  yx : Y ≤ X
  yb : Y ≤ B
  gcd : Nat.gcd X Y = Nat.gcd A B
  st : (c = 0 ∧ X = A ∧ Y = B) ∨ (0 < c ∧ X ≤ B ∧ X + Y ≤ A)

theorem Sm.start {x0 y0 : Nat} (h : y0 ≤ x0) : Sm x0 y0 0 1 0 0 1 x0 y0 :=
  ⟨fun _ => by omega, fun h => by omega, by omega, h, by omega, by omega, by omega, .inl ⟨rfl, rfl, rfl, rfl, rfl⟩⟩
theorem Tr.start {A B : Nat} (h : B ≤ A) : Tr A B 0 1 0 0 1 A B :=
  ⟨fun _ => by omega, fun h => by omega, h, Nat.le_refl _, rfl, .inl ⟨rfl, rfl, rfl⟩⟩

/-- the factors are words -/
theorem Sm.words {x0 y0 c a0 b0 a1 b1 x y : Nat} (h : Sm x0 y0 c a0 b0 a1 b1 x y) (hx : x0 < 18446744073709551616) : a0 < 4294967296 ∧ b0 < 4294967296 ∧ a1 < 4294967296 ∧ b1 < 4294967296 ∧ c < 4294967296 := by
  have h1 : b1 < 4294967296 := by
    rcases h.st with h2 | h2
    · omega
    · rw [← Nat.not_le]
      intro hb
      have h3 : 4294967296 * 4294967296 ≤ b1 * x := Nat.mul_le_mul hb (by have := h.yx; omega)
      have := h.det
      omega
  have := h.ab1
  have := h.cb
  rcases h.st with h2 | h2 <;> omega
/-- the next factors fit into 64 bits -/
theorem Sm.fits {x0 y0 c a0 b0 a1 b1 x y q y' : Nat} (h : Sm x0 y0 c a0 b0 a1 b1 x y) (hy : 0 < y) (hq : x = q * y + y') (hl : y' < y) :
    1 ≤ q ∧ a0 + q * a1 ≤ b0 + q * b1 ∧ b0 + q * b1 ≤ x0 ∧ x0 = (b0 + q * b1) * y + b1 * y' ∧ q * a1 ≤ q * b1 := by
  have hq1 : 1 ≤ q := by
    rcases Nat.eq_zero_or_pos q with h0 | h0
    · rw [h0, Nat.zero_mul] at hq; have := h.yx; omega
    · exact h0
  have e : x0 = (b0 + q * b1) * y + b1 * y' := by
    rw [h.det, hq, Nat.mul_add, Nat.add_mul, Nat.mul_left_comm b1 q y, ← Nat.mul_assoc q b1 y]; omega
  have h1 : q * a1 ≤ q * b1 := Nat.mul_le_mul_left _ h.ab1
  refine ⟨hq1, ?_, ?_, e, h1⟩
  · rcases h.st with h2 | h2
    · obtain ⟨_, e1, e2, e3, e4⟩ := h2
      rw [e1, e2, e3, e4]; omega
    · omega
  · have h2 : (b0 + q * b1) * 1 ≤ (b0 + q * b1) * y := Nat.mul_le_mul_left _ hy
    omega

/-- what the leading bits say of the numbers -/
theorem lead {A B E x0 y0 m n d : Nat} (hA : x0 * E ≤ A) (hB : B ≤ (y0 + 1) * E) (h : m * x0 = d + n * y0) (hd : n ≤ d) : n * B ≤ m * A := by
  have h1 : n * B ≤ n * ((y0 + 1) * E) := Nat.mul_le_mul_left _ hB
  have h2 : n * ((y0 + 1) * E) ≤ m * x0 * E := by
    rw [← Nat.mul_assoc, h]
    refine Nat.mul_le_mul_right _ ?_
    rw [Nat.mul_add, Nat.mul_one]; omega
  have h3 : m * x0 * E ≤ m * A := by rw [Nat.mul_assoc]; exact Nat.mul_le_mul_left _ hA
  omega

theorem gcd_next {X Y Z q : Nat} (h : X = q * Y + Z) : Nat.gcd Y Z = Nat.gcd X Y := by
  rw [h, Nat.gcd_comm (q * Y + Z) Y, Nat.add_comm (q * Y) Z, Nat.gcd_add_mul_right_right]

/-- a step that Collins's condition allows -/
theorem step_both {A B E x0 y0 c a0 b0 a1 b1 x y X Y q y' : Nat} (hA : x0 * E ≤ A) (hA' : A ≤ (x0 + 1) * E) (hB : y0 * E ≤ B) (hB' : B ≤ (y0 + 1) * E)
    (h : Sm x0 y0 c a0 b0 a1 b1 x y) (H : Tr A B c a0 b0 a1 b1 X Y) (hy : 0 < y) (hq : x = q * y + y') (hl : y' < y)
    (hc1 : b0 + q * b1 ≤ y') (hc2 : b1 + (b0 + q * b1) ≤ y - y') :
    Sm x0 y0 (c + 1) a1 b1 (a0 + q * a1) (b0 + q * b1) y y' ∧ ∃ Z, Tr A B (c + 1) a1 b1 (a0 + q * a1) (b0 + q * b1) Y Z := by
  obtain ⟨hq1, hab, hb, hdet, hqa⟩ := h.fits hy hq hl
  have hb1q : b1 ≤ q * b1 := Nat.le_mul_of_pos_left _ hq1
  have hcb : c + 1 ≤ b0 + q * b1 := by
    have := h.cb
    rcases h.st with h2 | h2
    · omega
    · omega
  have hst : 0 < c + 1 ∧ a1 ≤ b1 ∧ b0 + q * b1 ≤ y' ∧ 1 ≤ b1 ∧ b1 ≤ b0 + q * b1 := ⟨by omega, h.ab1, hc1, h.b1p, by omega⟩
  have hqy : q * (b1 * y0) = q * b1 * y0 := (Nat.mul_assoc _ _ _).symm
  have hqx : q * (a1 * x0) = q * a1 * x0 := (Nat.mul_assoc _ _ _).symm
  have hQB : q * (b1 * B) = q * b1 * B := (Nat.mul_assoc _ _ _).symm
  have hQA : q * (a1 * A) = q * a1 * A := (Nat.mul_assoc _ _ _).symm
  rcases Nat.mod_two_eq_zero_or_one c with hm | hm
  · obtain ⟨s1, s2⟩ := h.even hm
    obtain ⟨t1, t2⟩ := H.even hm
    have s3 : q * (b1 * y0) = q * y + q * (a1 * x0) := by rw [s2, Nat.mul_add]
    have t3 : q * (b1 * B) = q * Y + q * (a1 * A) := by rw [t2, Nat.mul_add]
    have o1 : (a0 + q * a1) * x0 = y' + (b0 + q * b1) * y0 := by rw [Nat.add_mul, Nat.add_mul, ← hqx, ← hqy, s1, s3]; omega
    have k1 := lead hA hB' o1 hc1
    have o2 : (b1 + (b0 + q * b1)) * y0 = (y - y') + (a1 + (a0 + q * a1)) * x0 := by rw [Nat.add_mul b1, Nat.add_mul a1, o1, s2]; omega
    have k2 := lead hB hA' o2 (by have := h.ab1; omega)
    rw [Nat.add_mul, Nat.add_mul, ← hQA, ← hQB, t1, t3] at k1
    have hZ : X = q * Y + (X - q * Y) := by omega
    have p1 : (a0 + q * a1) * A = (X - q * Y) + (b0 + q * b1) * B := by rw [Nat.add_mul, Nat.add_mul, ← hQA, ← hQB, t1, t3]; omega
    rw [Nat.add_mul b1, Nat.add_mul a1, p1, t2] at k2
    have hZY : X - q * Y ≤ Y := by omega
    have hqY : Y ≤ q * Y := Nat.le_mul_of_pos_left _ hq1
    refine ⟨⟨fun e => by omega, fun _ => ⟨s2, o1⟩, hdet, by omega, hab, hcb, by omega, .inr hst⟩, X - q * Y, fun e => by omega, fun _ => ⟨t2, p1⟩, hZY, Nat.le_trans hZY H.yb, (gcd_next hZ).trans H.gcd, .inr ⟨by omega, H.yb, ?_⟩⟩
    rcases H.st with h3 | h3
    · obtain ⟨_, e1, e2⟩ := h3; omega
    · omega
  · obtain ⟨s1, s2⟩ := h.odd hm
    obtain ⟨t1, t2⟩ := H.odd hm
    have s3 : q * (a1 * x0) = q * y + q * (b1 * y0) := by rw [s2, Nat.mul_add]
    have t3 : q * (a1 * A) = q * Y + q * (b1 * B) := by rw [t2, Nat.mul_add]
    have o1 : (b0 + q * b1) * y0 = y' + (a0 + q * a1) * x0 := by rw [Nat.add_mul, Nat.add_mul, ← hqx, ← hqy, s1, s3]; omega
    have k1 := lead hB hA' o1 (by omega)
    have o2 : (a1 + (a0 + q * a1)) * x0 = (y - y') + (b1 + (b0 + q * b1)) * y0 := by rw [Nat.add_mul b1, Nat.add_mul a1, o1, s2]; omega
    have k2 := lead hA hB' o2 hc2
    rw [Nat.add_mul, Nat.add_mul, ← hQA, ← hQB, t1, t3] at k1
    have hZ : X = q * Y + (X - q * Y) := by omega
    have p1 : (b0 + q * b1) * B = (X - q * Y) + (a0 + q * a1) * A := by rw [Nat.add_mul, Nat.add_mul, ← hQA, ← hQB, t1, t3]; omega
    rw [Nat.add_mul b1, Nat.add_mul a1, p1, t2] at k2
    have hZY : X - q * Y ≤ Y := by omega
    have hqY : Y ≤ q * Y := Nat.le_mul_of_pos_left _ hq1
    refine ⟨⟨fun _ => ⟨s2, o1⟩, fun e => by omega, hdet, by omega, hab, hcb, by omega, .inr hst⟩, X - q * Y, fun _ => ⟨t2, p1⟩, fun e => by omega, hZY, Nat.le_trans hZY H.yb, (gcd_next hZ).trans H.gcd, .inr ⟨by omega, H.yb, ?_⟩⟩
    rcases H.st with h3 | h3
    · obtain ⟨_, e1, e2⟩ := h3; omega
    · omega

/-- what shrink makes of two numbers -/
def Shr (A B X Y : Nat) : Prop := Y ≤ X ∧ Nat.gcd X Y = Nat.gcd A B ∧ X + Y < A + B ∧ X ≤ A
theorem Tr.shr {A B c a0 b0 a1 b1 X Y : Nat} (h : Tr A B c a0 b0 a1 b1 X Y) (hB : 0 < B) (hBA : B ≤ A) (hc : 0 < c) : Shr A B X Y := by
  refine ⟨h.yx, h.gcd, ?_, ?_⟩
  · rcases h.st with h3 | h3 <;> omega
  · rcases h.st with h3 | h3 <;> omega
theorem shr_mod {A B : Nat} (hB : 0 < B) (hBA : B ≤ A) : Shr A B B (A % B) := by
  have h := Nat.mod_lt A hB
  refine ⟨by omega, ?_, by omega, hBA⟩
  rw [Nat.gcd_comm A B, Nat.gcd_rec B A, Nat.gcd_comm]

/-- the 64 leading bits of three words -/
theorem lead_bits {w1 w2 w3 s : Nat} (hs : s ≤ 31) (h1 : w1 < 2 ^ (32 - s)) (h2 : w2 < 4294967296) (h3 : w3 < 4294967296) :
    ((w1 * 2 ^ (32 + s)) ||| (w2 * 2 ^ s)) ||| (w3 / 2 ^ (32 - s)) = (w3 + 4294967296 * (w2 + 4294967296 * w1)) / 2 ^ (32 - s) ∧ (w3 + 4294967296 * (w2 + 4294967296 * w1)) / 2 ^ (32 - s) < 18446744073709551616 := by
  have e0 : (4294967296 : Nat) = 2 ^ (32 - s) * 2 ^ s := by rw [← Nat.pow_add, show 32 - s + s = 32 by omega]
  have hw3 : w3 / 2 ^ (32 - s) < 2 ^ s := Nat.div_lt_of_lt_mul (by rw [← e0]; exact h3)
  have hp : 0 < 2 ^ (32 - s) := Nat.pow_pos (by decide)
  have e1 : (w1 * 2 ^ (32 + s)) ||| (w2 * 2 ^ s) = w1 * 2 ^ (32 + s) + w2 * 2 ^ s := by
    have h := Nat.shiftLeft_add_eq_or_of_lt (i := 32 + s) (b := w2 * 2 ^ s) (by
      rw [Nat.pow_add]; exact Nat.mul_lt_mul_of_pos_right h2 (Nat.pow_pos (by decide))) w1
    rw [Nat.shiftLeft_eq] at h
    exact h.symm
  have e2 : w1 * 2 ^ (32 + s) + w2 * 2 ^ s = (w1 * 4294967296 + w2) * 2 ^ s := by rw [Nat.add_mul, Nat.pow_add, Nat.mul_assoc]
  have e3 : (w1 * 2 ^ (32 + s) ||| (w2 * 2 ^ s)) ||| (w3 / 2 ^ (32 - s)) = (w1 * 4294967296 + w2) * 2 ^ s + w3 / 2 ^ (32 - s) := by
    rw [e1, e2]
    have h := Nat.shiftLeft_add_eq_or_of_lt (i := s) hw3 (w1 * 4294967296 + w2)
    rw [Nat.shiftLeft_eq] at h
    exact h.symm
  have e4 : (w3 + 4294967296 * (w2 + 4294967296 * w1)) / 2 ^ (32 - s) = (w1 * 4294967296 + w2) * 2 ^ s + w3 / 2 ^ (32 - s) := by
    have : w3 + 4294967296 * (w2 + 4294967296 * w1) = w3 + 2 ^ (32 - s) * ((w1 * 4294967296 + w2) * 2 ^ s) := by
      rw [Nat.mul_left_comm, ← e0, Nat.mul_comm _ 4294967296, Nat.mul_comm w1, Nat.add_comm w2]
    rw [this, Nat.add_mul_div_left _ _ hp, Nat.add_comm]
  refine ⟨e3.trans e4.symm, ?_⟩
  refine Nat.div_lt_of_lt_mul ?_
  have h5 : w3 + 4294967296 * (w2 + 4294967296 * w1) < 4294967296 * 4294967296 * 2 ^ (32 - s) := by
    have : 4294967296 * 4294967296 * (w1 + 1) ≤ 4294967296 * 4294967296 * 2 ^ (32 - s) := Nat.mul_le_mul_left _ h1
    omega
  rw [Nat.mul_comm (2 ^ (32 - s))]
  exact h5

/-- a number without its last bits -/
theorem div_between (N E : Nat) (hE : 0 < E) : N / E * E ≤ N ∧ N ≤ (N / E + 1) * E := by
  have h := Nat.div_add_mod N E
  have h2 := Nat.mod_lt N hE
  rw [Nat.mul_comm] at h
  rw [Nat.add_mul]
  omega
end Go.Proofs.YtkpomjdablopaaaGreatDoor.Kn
/- Windows of a block that a call changes: words for the walks over long division. -/
namespace Go.Proofs.YtkpomjdablopaaaGreatDoor
open Go.RowKit
set_option linter.unusedVariables false

theorem grown_set (w : World) (a : Addr) (u : Value) : w.grownBy (w.setCell a u) (some a.block) :=
  ⟨rfl, rfl, rfl, by simp [World.setCell], fun i hi hne => Below.heap_setCell w a u i (fun e => hne (by rw [e]))⟩
theorem grown_refl (w : World) (row : Option Nat) : w.grownBy w row := ⟨rfl, rfl, rfl, Nat.le_refl _, fun _ _ _ => rfl⟩
theorem grown_drew {w wr : World} {row : Option Nat} (h : w.grownBy wr row) : w.grownBy wr.drew row := ⟨h.os, h.tape, h.output, h.size, h.block⟩
theorem grown_drewN {w wr : World} {row : Option Nat} (h : w.grownBy wr row) (n : Nat) : w.grownBy (wr.drewN n) row := ⟨h.os, h.tape, h.output, h.size, h.block⟩
/-- a row below the block that is changed -/
theorem Sl.but {w wr : World} {g : Nat} {A : Option Addr} {c : Nat} {ws : List Nat} (h : Sl w g A c ws) (hg : w.grownBy wr (some g)) (hlt : g ≤ w.heap.size) : Sl wr g A c ws :=
  ⟨⟨h.nums.row.keep fun p hp => hg.cell_far p (by omega) (by intro e; injection e with e; omega)⟩, h.wd, h.cap, h.nil0⟩
theorem Blk.but {κ : IntKind} {T : TypeId} {w wr : World} {g g' : Nat} {ws : List Nat} (h : Blk κ T w g' ws) (hg : w.grownBy wr (some g)) (hne : g' ≠ g) : Blk κ T wr g' ws :=
  (hg.block g' h.lt (by intro e; injection e with e; exact hne e)).trans h

/-- a window of a block: the words us between pre and post -/
structure Win (w wr : World) (g : Nat) (pre us post : List Nat) (n : Nat) : Prop where
  row : Blk .u32 88 wr g (pre ++ us ++ post)
  len : us.length = n
  wd : Kn.Wd us
  gr : w.grownBy wr (some g)
section
variable {w wr : World} {g n : Nat} {pre us post : List Nat}
theorem Win.put (h : Win w wr g pre us post n) {i k x : Nat} (hi : pre.length = i) (hk : k < n) (hx : x < 4294967296) : Win w (wr.setCell ⟨g, i + k, none⟩ (.int .u32 (x : Int))) g pre (us.set k x) post n :=
  ⟨by
    have hl := h.len
    have := h.row.set_ (i + k) x
    rwa [← hi, Kn.set_mid _ _ _ (by omega), hi] at this, by rw [List.length_set]; exact h.len, h.wd.set k hx, h.gr.trans (grown_set _ ⟨g, i + k, none⟩ _)⟩
theorem Win.cell (h : Win w wr g pre us post n) {i k : Nat} (hi : pre.length = i) (hk : k < n) : wr.cell? ⟨g, i + k, none⟩ = some (.int .u32 ((us.getD k 0 : Nat) : Int)) := by
  have hl := h.len
  have := h.row.cell (k := i + k) (by simp only [List.length_append]; omega)
  rwa [← hi, Kn.getD_mid _ _ _ (by omega), hi] at this
theorem Win.frozen (h : Win w wr g pre us post n) (k : Nat) : wr.frozen? ⟨g, k, none⟩ = false := h.row.frozen k
theorem Win.start (h : Blk .u32 88 w g (pre ++ us ++ post)) (hl : us.length = n) (hw : Kn.Wd us) : Win w w g pre us post n := ⟨h, hl, hw, grown_refl _ _⟩
theorem Win.drew (h : Win w wr g pre us post n) : Win w wr.drew g pre us post n := ⟨h.row.drew, h.len, h.wd, grown_drew h.gr⟩
theorem Win.drewN (h : Win w wr g pre us post n) (q : Nat) : Win w (wr.drewN q) g pre us post n := ⟨h.row.drewN q, h.len, h.wd, grown_drewN h.gr q⟩
theorem Win.on {wx : World} {vs : List Nat} (h : Win w wr g pre us post n) (h2 : Win wr wx g pre vs post n) : Win w wx g pre vs post n := ⟨h2.row, h2.len, h2.wd, h.gr.trans h2.gr⟩
end

theorem or_any64 (a b : Nat) (ha : a < 18446744073709551616) (hb : b < 18446744073709551616) : bits BinOp.or IntKind.u64 (a : Int) (b : Int) = ((a ||| b : Nat) : Int) := u64_or_nat a b ha hb
theorem getD_drop_eq {l m : List Nat} {k : Nat} (h : l.drop k = m.drop k) : l.getD k 0 = m.getD k 0 := by
  have h1 := congrArg (fun x : List Nat => x.getD 0 0) h
  simpa [List.getD_eq_getElem?_getD, List.getElem?_drop] using h1
theorem drop_succ_eq {l m : List Nat} {k : Nat} (h : l.drop k = m.drop k) : l.drop (k + 1) = m.drop (k + 1) := by
  have h1 := congrArg (fun x : List Nat => x.drop 1) h
  simpa [List.drop_drop] using h1
end Go.Proofs.YtkpomjdablopaaaGreatDoor
/- Walks: subtractMultiple, addBack. -/
namespace Go.Proofs.YtkpomjdablopaaaGreatDoor
open Go.RowKit
set_option linter.unusedVariables false

/-- a word of a difference with a borrow, as the machine reckons it -/
theorem sub_word2 (x lo bo : Nat) (hx : x < 4294967296) (hl : lo < 4294967296) (hb : bo ≤ 1) : ∃ r bo' : Nat, r + lo + bo = x + 4294967296 * bo' ∧ r < 4294967296 ∧ bo' ≤ 1 ∧
    IntKind.u64.wrap (IntKind.u64.wrap ((x : Int) - (lo : Int)) - (bo : Int)) % 4294967296 = (r : Int) ∧ IntKind.u64.wrap (IntKind.u64.wrap ((x : Int) - (lo : Int)) - (bo : Int)) / 9223372036854775808 = (bo' : Int) := by
  rw [IntKind.wrap_u64, IntKind.wrap_u64]
  by_cases h : lo + bo ≤ x
  · exact ⟨x - lo - bo, 0, by omega, by omega, by omega, by omega, by omega⟩
  · exact ⟨x + 4294967296 - lo - bo, 1, by omega, by omega, by omega, by omega, by omega⟩

set_option maxRecDepth 100000 in
set_option maxHeartbeats 2000000 in
theorem subtractMultiple_any (g i c n f : Nat) (pre us0 post : List Nat) (B : Option Addr) (cb : Nat) (d : List Nat) (w : World) (h : Blk .u32 88 w g (pre ++ us0 ++ post)) (hpre : pre.length = i) (hul : us0.length = n + 1) (huw : Kn.Wd us0)
    (hd : Sl w g B cb d) (hdl : d.length = n) (hn : n ≤ 99999999) (hi : i ≤ 99999999) (hf : f < 4294967296) :
    Calls Tryz.prog 181 #[.slice (some ⟨g, i, none⟩) (n + 1 : Nat) c, .slice B n cb, .int .u64 (f : Int)] w fun e w' => ∃ us bo, e = .returned (.bool (decide (bo = 1))) ∧ Win w w' g pre us post (n + 1) ∧ bo ≤ 1 ∧ Kn.val us + f * Kn.val d = Kn.val us0 + Kn.pw (n + 1) * bo := by
  have hglt := h.lt
  have HD := Lib.hid hdl
  go_enter Tryz.func181, Tryz.ntmps181
  go_wp2_with fail
  go_loopw [7, 8, 13] (fun pv bv iv wr => ∃ k pr bo us, k ≤ n + 1 ∧ iv = .int .i64 (k : Nat) ∧ pv = .int .u64 (pr : Nat) ∧ bv = .int .u64 (bo : Nat) ∧ pr < 4294967296 ∧ bo ≤ 1 ∧ Hid (k = n + 1 → pr = 0) ∧ Win w wr g pre us post (n + 1) ∧
    Hid (us.drop k = us0.drop k ∧ Kn.val (us.take k) + f * Kn.val (d.take k) = Kn.val (us0.take k) + Kn.pw k * (pr + bo))) (fun _ _ iv _ => n + 1 - (intOf iv).toNat)
  case atStart => exact ⟨0, 0, 0, us0, Nat.zero_le _, rfl, rfl, rfl, by omega, by omega, Lib.hid (fun _ => rfl), Win.start h hul huw, Lib.hid ⟨rfl, by simp [Kn.val]⟩⟩
  case round =>
    obtain ⟨k, pr, bo, us, hk, rfl, rfl, rfl, hpr, hbo, HP, I, HI⟩ := hrel
    by_cases hlt : k < n + 1
    · have hcg := I.cell hpre hlt
      have hfg := I.frozen (i + k)
      obtain ⟨x, hx⟩ : ∃ x : Nat, Hid (x = us.getD k 0) := ⟨_, Lib.hid rfl⟩
      rw [← hx.out] at hcg
      have hxl : x < 4294967296 := by rw [hx.out]; exact I.wd.getD _
      have hx0 : Hid (x = us0.getD k 0) := Lib.hid (by rw [hx.out]; exact getD_drop_eq HI.out.1)
      have hIk : (k : Int) < (n : Int) + 1 := by omega
      by_cases hlt2 : k < n
      · obtain ⟨b2, o2, y, rfl, hb2, hc2, hy, hyl⟩ := (hd.but I.gr (by omega)).word (k := k) (by rw [HD.out]; exact hlt2)
        have hlt3 : decide (k < n) = true := by simp [hlt2]
        obtain ⟨fy, hfy⟩ : ∃ fy : Nat, Hid (fy = f * y) := ⟨_, Lib.hid rfl⟩
        have hfyl : fy ≤ 18446744065119617025 := by rw [hfy.out]; exact Nat.le_trans (Nat.mul_le_mul (show f ≤ 4294967295 by omega) (show y ≤ 4294967295 by omega)) (by decide)
        have hfyw : Hid (IntKind.u64.wrap ((f : Int) * (y : Int)) = (fy : Int)) := Lib.hid (by rw [← Int.natCast_mul, ← hfy.out]; exact wrap_nat (by omega))
        have ep : Hid (IntKind.u64.wrap ((pr : Int) + (fy : Int)) = ((pr + fy : Nat) : Int)) := Lib.hid (by rw [← Int.natCast_add]; exact wrap_nat (by omega))
        have al : Hid (bits BinOp.and IntKind.u64 ((pr + fy : Nat) : Int) 4294967295 = (((pr + fy) % 4294967296 : Nat) : Int)) := Lib.hid (and_low _ (by omega))
        obtain ⟨r, bo', D1, D2, D3, D4, D5⟩ := sub_word2 x ((pr + fy) % 4294967296) bo hxl (by omega) hbo
        have HD1 := Lib.hid D1
        have HD4 := Lib.hid D4
        have HD5 := Lib.hid D5
        clear D1 D4 D5
        have hq : (pr + fy) / 4294967296 < 4294967296 := by omega
        have HN : Hid ((us.set k r).drop (k + 1) = us0.drop (k + 1) ∧ Kn.val ((us.set k r).take (k + 1)) + f * Kn.val (d.take (k + 1)) = Kn.val (us0.take (k + 1)) + Kn.pw (k + 1) * ((pr + fy) / 4294967296 + bo')) := Lib.hid
          ⟨by rw [Kn.drop_set _ _ (by omega)]; exact drop_succ_eq HI.out.1, Kn.subm_step (by have := I.len; omega) hx0.out HI.out.2 (by rw [hfy.out, hy.out]) HD1.out⟩
        have J := I.put hpre hlt D2
        have HP2 : Hid (k + 1 = n + 1 → (pr + fy) / 4294967296 = 0) := Lib.hid (fun e => by omega)
        go_wp2_with fail
        rw [hfyw.out, ep.out, al.out, HD4.out, HD5.out, show ((pr + fy : Nat) : Int) / 4294967296 = (((pr + fy) / 4294967296 : Nat) : Int) by omega]
        go_roundw
        case rel => exact ⟨k + 1, _, _, _, by omega, by go_num, rfl, rfl, hq, D3, HP2, J, HN⟩
        case measure => first | (simp [intOf]; done) | (simp [intOf]; omega)
      · obtain rfl : k = n := by omega
        have hlt3 : decide (k < k) = false := by simp
        have hy0 : Hid (d.getD k 0 = 0) := Lib.hid (by rw [List.getD_eq_getElem?_getD, List.getElem?_eq_none (by have := HD.out; omega)]; rfl)
        have al : Hid (bits BinOp.and IntKind.u64 (pr : Int) 4294967295 = ((pr % 4294967296 : Nat) : Int)) := Lib.hid (and_low _ (by omega))
        obtain ⟨r, bo', D1, D2, D3, D4, D5⟩ := sub_word2 x (pr % 4294967296) bo hxl (by omega) hbo
        have HD1 := Lib.hid D1
        have HD4 := Lib.hid D4
        have HD5 := Lib.hid D5
        clear D1 D4 D5
        have hq : pr / 4294967296 < 4294967296 := by omega
        have HN : Hid ((us.set k r).drop (k + 1) = us0.drop (k + 1) ∧ Kn.val ((us.set k r).take (k + 1)) + f * Kn.val (d.take (k + 1)) = Kn.val (us0.take (k + 1)) + Kn.pw (k + 1) * (pr / 4294967296 + bo')) := Lib.hid
          ⟨by rw [Kn.drop_set _ _ (by omega)]; exact drop_succ_eq HI.out.1, Kn.subm_step (by have := I.len; omega) hx0.out HI.out.2 (by rw [hy0.out]; simp) HD1.out⟩
        have J := I.put hpre hlt D2
        have HP2 : Hid (k + 1 = k + 1 → pr / 4294967296 = 0) := Lib.hid (fun e => by omega)
        go_wp2_with fail
        rw [al.out, HD4.out, HD5.out, show (pr : Int) / 4294967296 = ((pr / 4294967296 : Nat) : Int) by omega]
        go_roundw
        case rel => exact ⟨k + 1, _, _, _, by omega, by go_num, rfl, rfl, hq, D3, HP2, J, HN⟩
        case measure => first | (simp [intOf]; done) | (simp [intOf]; omega)
    · obtain rfl : k = n + 1 := by omega
      have hfin : Hid (Kn.val us + f * Kn.val d = Kn.val us0 + Kn.pw (n + 1) * bo) := Lib.hid (by
        have h1 := HI.out.2
        rw [List.take_of_length_le (by have := I.len; omega), List.take_of_length_le (by have := HD.out; omega), List.take_of_length_le (by omega), HP.out rfl, Nat.zero_add] at h1
        exact h1)
      have hb1 : Hid (((bo : Int) != 0) = decide (bo = 1)) := Lib.hid (by rcases (show bo = 0 ∨ bo = 1 by omega) with e | e <;> subst e <;> rfl)
      go_wp2_with fail
      go_ret
      exact ⟨us, bo, ret_bool hb1.out, I, hbo, hfin.out⟩

set_option maxRecDepth 100000 in
set_option maxHeartbeats 2000000 in
theorem addBack_any (g i c n : Nat) (pre us0 post : List Nat) (B : Option Addr) (cb : Nat) (d : List Nat) (w : World) (h : Blk .u32 88 w g (pre ++ us0 ++ post)) (hpre : pre.length = i) (hul : us0.length = n + 1) (huw : Kn.Wd us0)
    (hd : Sl w g B cb d) (hdl : d.length = n) (hn : n ≤ 99999999) (hi : i ≤ 99999999) :
    Calls Tryz.prog 182 #[.slice (some ⟨g, i, none⟩) (n + 1 : Nat) c, .slice B n cb] w fun e w' => ∃ us cr, e = .returned (.tuple #[]) ∧ Win w w' g pre us post (n + 1) ∧ Kn.val us + Kn.pw (n + 1) * cr = Kn.val us0 + Kn.val d := by
  have hglt := h.lt
  have HD := Lib.hid hdl
  go_enter Tryz.func182, Tryz.ntmps182
  go_wp2_with fail
  go_loopw [4, 8] (fun cv iv wr => ∃ k cr us, k ≤ n + 1 ∧ iv = .int .i64 (k : Nat) ∧ cv = .int .u64 (cr : Nat) ∧ cr ≤ 1 ∧ Win w wr g pre us post (n + 1) ∧
    Hid (us.drop k = us0.drop k ∧ Kn.val (us.take k) + Kn.pw k * cr = Kn.val (us0.take k) + Kn.val (d.take k))) (fun _ iv _ => n + 1 - (intOf iv).toNat)
  case atStart => exact ⟨0, 0, us0, Nat.zero_le _, rfl, rfl, by omega, Win.start h hul huw, Lib.hid ⟨rfl, by simp [Kn.val]⟩⟩
  case round =>
    obtain ⟨k, cr, us, hk, rfl, rfl, hcr, I, HI⟩ := hrel
    by_cases hlt : k < n + 1
    · have hcg := I.cell hpre hlt
      have hfg := I.frozen (i + k)
      obtain ⟨x, hx⟩ : ∃ x : Nat, Hid (x = us.getD k 0) := ⟨_, Lib.hid rfl⟩
      rw [← hx.out] at hcg
      have hxl : x < 4294967296 := by rw [hx.out]; exact I.wd.getD _
      have hx0 : Hid (x = us0.getD k 0) := Lib.hid (by rw [hx.out]; exact getD_drop_eq HI.out.1)
      have hIk : (k : Int) < (n : Int) + 1 := by omega
      by_cases hlt2 : k < n
      · obtain ⟨b2, o2, y, rfl, hb2, hc2, hy, hyl⟩ := (hd.but I.gr (by omega)).word (k := k) (by rw [HD.out]; exact hlt2)
        have hlt3 : decide (k < n) = true := by simp [hlt2]
        have hq : (cr + x + y) / 4294967296 ≤ 1 := by omega
        have HN : Hid ((us.set k ((cr + x + y) % 4294967296)).drop (k + 1) = us0.drop (k + 1) ∧ Kn.val ((us.set k ((cr + x + y) % 4294967296)).take (k + 1)) + Kn.pw (k + 1) * ((cr + x + y) / 4294967296) = Kn.val (us0.take (k + 1)) + Kn.val (d.take (k + 1))) := Lib.hid
          ⟨by rw [Kn.drop_set _ _ (by omega)]; exact drop_succ_eq HI.out.1, Kn.add_step (by have := I.len; omega) HI.out.2 (show cr + x + y = _ by rw [hx0.out, hy.out])⟩
        have J := I.put hpre hlt (x := (cr + x + y) % 4294967296) (by omega)
        go_wp2_with fail
        rw [show (((cr : Int) + (x : Int)) + (y : Int)) % 4294967296 = (((cr + x + y) % 4294967296 : Nat) : Int) by omega, show (((cr : Int) + (x : Int)) + (y : Int)) / 4294967296 = (((cr + x + y) / 4294967296 : Nat) : Int) by omega]
        go_roundw
        case rel => exact ⟨k + 1, _, _, by omega, by go_num, rfl, hq, J, HN⟩
        case measure => first | (simp [intOf]; done) | (simp [intOf]; omega)
      · obtain rfl : k = n := by omega
        have hlt3 : decide (k < k) = false := by simp
        have hy0 : Hid (d.getD k 0 = 0) := Lib.hid (by rw [List.getD_eq_getElem?_getD, List.getElem?_eq_none (by have := HD.out; omega)]; rfl)
        have hq : (cr + x) / 4294967296 ≤ 1 := by omega
        have HN : Hid ((us.set k ((cr + x) % 4294967296)).drop (k + 1) = us0.drop (k + 1) ∧ Kn.val ((us.set k ((cr + x) % 4294967296)).take (k + 1)) + Kn.pw (k + 1) * ((cr + x) / 4294967296) = Kn.val (us0.take (k + 1)) + Kn.val (d.take (k + 1))) := Lib.hid
          ⟨by rw [Kn.drop_set _ _ (by omega)]; exact drop_succ_eq HI.out.1, Kn.add_step (by have := I.len; omega) HI.out.2 (show cr + x = _ by rw [hx0.out, hy0.out]; omega)⟩
        have J := I.put hpre hlt (x := (cr + x) % 4294967296) (by omega)
        go_wp2_with fail
        rw [show ((cr : Int) + (x : Int)) % 4294967296 = (((cr + x) % 4294967296 : Nat) : Int) by omega, show ((cr : Int) + (x : Int)) / 4294967296 = (((cr + x) / 4294967296 : Nat) : Int) by omega]
        go_roundw
        case rel => exact ⟨k + 1, _, _, by omega, by go_num, rfl, hq, J, HN⟩
        case measure => first | (simp [intOf]; done) | (simp [intOf]; omega)
    · obtain rfl : k = n + 1 := by omega
      have hfin : Hid (Kn.val us + Kn.pw (n + 1) * cr = Kn.val us0 + Kn.val d) := Lib.hid (by
        have h1 := HI.out.2
        rw [List.take_of_length_le (by have := I.len; omega), List.take_of_length_le (by omega), List.take_of_length_le (by have := HD.out; omega)] at h1
        exact h1)
      go_wp2_with fail
      go_end0
      exact ⟨us, cr, rfl, I, hfin.out⟩
end Go.Proofs.YtkpomjdablopaaaGreatDoor
/- Values that a slice reads as, as a function of the world: measures of loops. -/
namespace Go.Proofs.YtkpomjdablopaaaGreatDoor
open Go.RowKit
set_option linter.unusedVariables false

/-- the words that a slice reads -/
def rdWords (w : World) : Value → List Nat
  | .slice (some a) n _ => (List.range n).map fun k => match w.cell? ⟨a.block, a.off + k, none⟩ with | some (.int _ z) => z.toNat | _ => 0
  | _ => []
def rdVal (w : World) (v : Value) : Nat := Kn.val (rdWords w v)
theorem rdVal_sl {w : World} {B : Nat} {A : Option Addr} {c : Nat} {ws : List Nat} (h : Sl w B A c ws) : rdVal w (.slice A ws.length c) = Kn.val ws := by
  unfold rdVal
  congr 1
  rcases Nat.eq_zero_or_pos ws.length with h0 | h0
  · rw [List.length_eq_zero_iff.1 h0]
    cases A <;> rfl
  · obtain ⟨b, off, rfl, hb, hc⟩ := h.nums.row.cells (by rw [List.length_map]; exact h0)
    apply List.ext_getElem
    · simp [rdWords]
    · intro i h1 h2
      have := hc i (.int .u32 ((ws[i] : Nat) : Int)) (by rw [List.getElem?_map, List.getElem?_eq_getElem h2]; rfl)
      simp [rdWords, this]
theorem rdVal_dig {w : World} {B : Nat} {A : Option Addr} {c n : Nat} (h : Sl w B A c (Kn.dig n)) : rdVal w (.slice A (Kn.dig n).length c) = n := by rw [rdVal_sl h, Kn.val_dig]
end Go.Proofs.YtkpomjdablopaaaGreatDoor
