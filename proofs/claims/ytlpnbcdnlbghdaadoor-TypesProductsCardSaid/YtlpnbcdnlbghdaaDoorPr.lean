/- Plain: the numbers of values of arrays and records. -/
import Derived.Test.YtlpnbcdnlbghdaaDoorVa
namespace Go.Proofs.YtlpnbcdnlbghdaaDoor
set_option linter.unusedVariables false

/-- the number of values of a scalar -/
def wd (s : Sl) : Int := s.hi - s.lo + 1
/-- a product -/
def pr : List Int → Int | [] => 1 | x :: l => x * pr l
theorem pr_app (a b : List Int) : pr (a ++ b) = pr a * pr b := by
  induction a with
  | nil => simp [pr]
  | cons x a ih => simp only [List.cons_append, pr, ih, Int.mul_assoc]
theorem pr_pos {l : List Int} (h : ∀ x ∈ l, 1 ≤ x) : 1 ≤ pr l := by
  induction l with
  | nil => simp [pr]
  | cons x l ih =>
    have h1 := h x (by simp)
    have h2 := ih fun y hy => h y (by simp [hy])
    have := Int.mul_le_mul h1 h2 (by decide) (by omega)
    simp only [pr]; omega
theorem valF_eq {l : List Sl} : ∀ {t a : Int}, G.valF l t = some a → a = t * pr (l.map wd) := by
  induction l with
  | nil => intro t a h; simp only [G.valF] at h; simp [pr]; exact (Option.some.inj h).symm
  | cons s l ih =>
    intro t a h
    simp only [G.valF] at h
    by_cases hh : 1099511627776 < t * (s.hi - s.lo + 1)
    · rw [if_pos hh] at h; cases h
    · rw [if_neg hh] at h
      rw [ih h, List.map_cons]
      simp only [pr, wd, Int.mul_assoc]
theorem valF_some {l : List Sl} : ∀ {t : Int}, 1 ≤ t → (∀ x ∈ l.map wd, 1 ≤ x) → t * pr (l.map wd) ≤ 1099511627776 → G.valF l t = some (t * pr (l.map wd)) := by
  induction l with
  | nil => intro t _ _ _; simp [G.valF, pr]
  | cons s l ih =>
    intro t ht h hb
    have h1 : 1 ≤ wd s := h _ (by simp)
    have hr : ∀ x ∈ l.map wd, 1 ≤ x := fun x hx => h x (by simp only [List.map_cons, List.mem_cons]; exact .inr hx)
    have h2 := pr_pos hr
    have e : t * pr ((s :: l).map wd) = t * wd s * pr (l.map wd) := by simp only [List.map_cons, pr, Int.mul_assoc]
    rw [e] at hb ⊢
    have h3 : 1 ≤ t * wd s := by have := Int.mul_le_mul ht h1 (by decide) (by omega); omega
    have h4 : t * wd s ≤ t * wd s * pr (l.map wd) := by
      have := Int.mul_le_mul_of_nonneg_left h2 (by omega : 0 ≤ t * wd s)
      omega
    simp only [G.valF]
    rw [if_neg (by show ¬ 1099511627776 < t * wd s; omega)]
    exact ih h3 hr hb
namespace G
theorem scal_else (e : G) (p : ByteArray) (h2 : e.kd ≠ 2) (h3 : e.kd ≠ 3) : scal e p = [if e.kd = 0 then ⟨p, true, 0, 1⟩ else ⟨p, false, e.lo, e.hi⟩] := by
  cases e with
  | mk k lo hi sz nm na nc ns a c ks =>
    have h2' : k ≠ 2 := h2
    have h3' : k ≠ 3 := h3
    rw [scal, if_neg h2', if_neg h3']
    show _ = [if k = 0 then _ else _]
    by_cases h0 : k = 0
    · rw [if_pos h0, if_pos h0]
    · rw [if_neg h0, if_neg h0]; rfl
/-- the widths are the same at every path -/
theorem scal_wd (e : G) : ∀ p q, (scal e p).map wd = (scal e q).map wd := by
  induction e using G.ind with
  | h e ih =>
    intro p q
    by_cases hk : e.kd = 2 ∨ e.kd = 3
    · rw [scal_comps e p (by omega) (by omega), scal_comps e q (by omega) (by omega), List.map_flatMap, List.map_flatMap]
      have key : ∀ l : List (ByteArray × G), (∀ c ∈ l, c.2 ∈ e.ks) → (l.flatMap fun c => (scal c.2 (jn p c.1)).map wd) = l.flatMap fun c => (scal c.2 (jn q c.1)).map wd := by
        intro l
        induction l with
        | nil => intro _; rfl
        | cons c l ihl =>
          intro h
          rw [List.flatMap_cons, List.flatMap_cons, ih c.2 (h c (by simp)) (jn p c.1) (jn q c.1), ihl fun c hc => h c (by simp [hc])]
      refine key _ fun c hc => ?_
      unfold comps at hc
      split at hc
      · unfold comps2 at hc
        cases hks : e.ks with
        | nil => rw [hks] at hc; cases hc
        | cons k l => rw [hks] at hc; obtain ⟨i, _, rfl⟩ := List.mem_map.1 hc; simp
      · split at hc
        · exact (List.of_mem_zip hc).2
        · cases hc
    · rw [scal_else e p (by omega) (by omega), scal_else e q (by omega) (by omega)]
      by_cases h0 : e.kd = 0
      · rw [if_pos h0, if_pos h0]; rfl
      · rw [if_neg h0, if_neg h0]; rfl
/-- the product of the widths -/
def pw (e : G) : Int := pr ((scal e ⟨#[]⟩).map wd)
theorem pw_at (e : G) (p : ByteArray) : pr ((scal e p).map wd) = pw e := by unfold pw; rw [scal_wd e p]
theorem wd_pos {e : G} (h : chkT nmB e = 0) : ∀ x ∈ (scal e ⟨#[]⟩).map wd, 1 ≤ x := fun x hx => by
  obtain ⟨s, hs, rfl⟩ := List.mem_map.1 hx
  have v := Vd.of_chkT h
  have := scal_bd e v.mal v.out v.nam _ s hs
  unfold sOk at this
  unfold wd
  omega
/-- a type that has values -/
theorem valR_ok {e : G} {a : Int} (h : valR nmB e = (a, 0)) : chkT nmB e = 0 ∧ a = pw e ∧ 1 ≤ a := by
  unfold valR scalR at h
  by_cases hc : chkT nmB e ≠ 0
  · rw [if_pos hc] at h
    rw [if_pos hc] at h
    injection h with _ h2
    exact absurd h2 hc
  · rw [if_neg hc] at h
    have hc0 : chkT nmB e = 0 := by simpa using hc
    rw [if_neg (by simp)] at h
    have hp := pr_pos (wd_pos hc0)
    cases hv : valF (scal e ⟨#[]⟩) 1 with
    | none => rw [show ((scal e ⟨#[]⟩, (0 : Int)).1) = scal e ⟨#[]⟩ from rfl, hv] at h; injection h with _ h2; exact absurd h2 (by decide)
    | some t =>
      rw [show ((scal e ⟨#[]⟩, (0 : Int)).1) = scal e ⟨#[]⟩ from rfl, hv] at h
      injection h with h1 _
      have := valF_eq hv
      rw [Int.one_mul] at this
      have ht : t = pw e := this
      exact ⟨hc0, by rw [← h1]; exact ht, by rw [← h1, ht]; exact hp⟩
theorem valR_of {e : G} {a : Int} (ha : pw e = a) (hb : a ≤ 1099511627776) : (valR nmB e).2 = chkT nmB e ∧ (chkT nmB e = 0 → (valR nmB e).1 = a) := by
  unfold valR scalR
  by_cases hc : chkT nmB e ≠ 0
  · rw [if_pos hc, if_pos hc]; exact ⟨rfl, fun h => absurd h hc⟩
  · have hc0 : chkT nmB e = 0 := by simpa using hc
    rw [if_neg hc, if_neg (by simp)]
    have h1 := valF_some (l := scal e ⟨#[]⟩) (t := 1) (by decide) (wd_pos hc0) (by rw [Int.one_mul]; show pw e ≤ _; omega)
    rw [Int.one_mul] at h1
    have h2 : valF (scal e ⟨#[]⟩) 1 = some a := by rw [h1, ← ha]; rfl
    rw [show ((scal e ⟨#[]⟩, (0 : Int)).1) = scal e ⟨#[]⟩ from rfl, h2]
    exact ⟨hc0.symm, fun _ => rfl⟩
/-- a power -/
def pow (a : Int) : Nat → Int | 0 => 1 | n + 1 => pow a n * a
theorem pw_array (n : Nat) (A : Option Addr) (c : Nat) (t : G) : pw (.mk 2 0 0 (n : Int) ⟨#[]⟩ none 0 [] A c [t]) = pow (pw t) n := by
  unfold pw
  rw [scal_two _ _ rfl]
  show pr (((List.range (((n : Nat) : Int)).toNat).flatMap fun i => scalH [t] (jn ⟨#[]⟩ (num i))).map wd) = _
  rw [Int.toNat_natCast]
  induction n with
  | zero => rfl
  | succ n ih =>
    rw [List.range_succ, List.flatMap_append, List.map_append, pr_app, ih]
    show _ * pr ((([n].flatMap fun i => scalH [t] (jn ⟨#[]⟩ (num i)))).map wd) = _
    rw [List.flatMap_cons, List.flatMap_nil, List.append_nil]
    show _ * pr ((scal t (jn ⟨#[]⟩ (num n))).map wd) = _
    rw [pw_at t (jn ⟨#[]⟩ (num n))]
    rfl
theorem pw_record (x y : ByteArray) (NA A : Option Addr) (nc c : Nat) (t u : G) : pw (.mk 3 0 0 0 ⟨#[]⟩ NA nc [x, y] A c [t, u]) = pw t * pw u := by
  unfold pw
  rw [scal_three _ _ rfl]
  show pr ((scalL [t, u] [x, y] ⟨#[]⟩).map wd) = _
  simp only [scalL]
  rw [List.append_nil, List.map_append, pr_app, pw_at, pw_at]
  rfl
theorem pow_pos {a : Int} (h : 1 ≤ a) (n : Nat) : 1 ≤ pow a n := by
  induction n with
  | zero => simp [pow]
  | succ n ih => simp only [pow]; have := Int.mul_le_mul ih h (by decide) (by omega); omega
theorem pow_le {a : Int} (h : 1 ≤ a) (h2 : a ≤ 1000) (n : Nat) (hn : n ≤ 4) : pow a n ≤ 1000000000000 := by
  have h1 : pow a 1 ≤ 1000 := by simp only [pow]; omega
  have p1 := pow_pos h 1
  have h3 : pow a 2 ≤ 1000 * 1000 := by
    show pow a 1 * a ≤ _
    exact Int.mul_le_mul h1 h2 (by omega) (by decide)
  have p2 := pow_pos h 2
  have h4 : pow a 3 ≤ 1000000 * 1000 := by
    show pow a 2 * a ≤ _
    exact Int.mul_le_mul (by omega) h2 (by omega) (by decide)
  have p3 := pow_pos h 3
  have h5 : pow a 4 ≤ 1000000000 * 1000 := by
    show pow a 3 * a ≤ _
    exact Int.mul_le_mul (by omega) h2 (by omega) (by decide)
  obtain rfl | rfl | rfl | rfl | rfl : n = 0 ∨ n = 1 ∨ n = 2 ∨ n = 3 ∨ n = 4 := by omega
  · simp [pow]
  all_goals omega
end G
end Go.Proofs.YtlpnbcdnlbghdaaDoor
