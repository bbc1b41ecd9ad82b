import Derived.Test.YtdfkgkgglldokaaJoin
/- The laws of meets and joins. -/
namespace Go.Proofs.Ytdfkgkgglldokaa.Kp
set_option linter.unusedVariables false

theorem IsMeet.comm {p q z : List Int} (h : IsMeet p q z) (hl : p.length = q.length) : IsMeet q p z :=
  ⟨h.v, by rw [h.len, hl], fun i j hi hj => by rw [h.iff i j (by omega) (by omega), And.comm]⟩
theorem Jn.comm {f g : Nat → Int} {n i j : Nat} (h : Jn f g n i j) : Jn g f n i j := by
  induction h with
  | refl i h => exact .refl i h
  | head i j k a b c d ih => exact .head i j k a b c.symm ih
theorem IsJoin.comm {p q z : List Int} (h : IsJoin p q z) (hl : p.length = q.length) : IsJoin q p z :=
  ⟨h.v, by rw [h.len, hl], fun i j hi hj => by rw [h.iff i j (by omega) (by omega), ← hl]; exact ⟨Jn.comm, Jn.comm⟩⟩
theorem IsJoin.left {p q z : List Int} (h : IsJoin p q z) {i j : Nat} (hi : i < p.length) (hj : j < p.length) (e : lab p i = lab p j) : lab z i = lab z j := (h.iff i j hi hj).2 (.one hi hj (.inl e))
theorem IsJoin.right {p q z : List Int} (h : IsJoin p q z) {i j : Nat} (hi : i < p.length) (hj : j < p.length) (e : lab q i = lab q j) : lab z i = lab z j := (h.iff i j hi hj).2 (.one hi hj (.inr e))
theorem IsJoin.least {p q z : List Int} (h : IsJoin p q z) {f : Nat → Int} (h1 : ∀ i j, i < p.length → j < p.length → lab p i = lab p j → f i = f j) (h2 : ∀ i j, i < p.length → j < p.length → lab q i = lab q j → f i = f j)
    {i j : Nat} (hi : i < p.length) (hj : j < p.length) (e : lab z i = lab z j) : f i = f j := ((h.iff i j hi hj).1 e).keep h1 h2
theorem meet_assoc {p q r pq qr a b : List Int} (h1 : IsMeet p q pq) (h2 : IsMeet q r qr) (ha : IsMeet pq r a) (hb : IsMeet p qr b) (hl : p.length = q.length) : a = b :=
  valid_eq ha.v hb.v (by rw [ha.len, h1.len, hb.len]) fun i j hi hj => by
    rw [ha.len, h1.len] at hi hj
    have l1 := h1.len
    rw [ha.iff i j (by omega) (by omega), h1.iff i j hi hj, hb.iff i j hi hj, h2.iff i j (by omega) (by omega), and_assoc]
theorem join_assoc {p q r pq qr a b : List Int} (h1 : IsJoin p q pq) (h2 : IsJoin q r qr) (ha : IsJoin pq r a) (hb : IsJoin p qr b) (hl : p.length = q.length) : a = b :=
  valid_eq ha.v hb.v (by rw [ha.len, h1.len, hb.len]) fun i j hi hj => by
    rw [ha.len, h1.len] at hi hj
    have l1 := h1.len
    constructor
    · intro e
      exact ha.least (f := lab b) (fun x y hx hy e2 => h1.least (f := lab b) (fun x y hx hy e3 => hb.left hx hy e3) (fun x y hx hy e3 => hb.right hx hy (h2.left (by omega) (by omega) e3)) (by omega) (by omega) e2) (fun x y hx hy e2 => hb.right (by omega) (by omega) (h2.right (by omega) (by omega) e2)) (by omega) (by omega) e
    · intro e
      exact hb.least (f := lab a) (fun x y hx hy e2 => ha.left (by omega) (by omega) (h1.left hx hy e2)) (fun x y hx hy e2 => h2.least (f := lab a) (fun x y hx hy e3 => ha.left (by omega) (by omega) (h1.right (by omega) (by omega) e3)) (fun x y hx hy e3 => ha.right (by omega) (by omega) e3) (by omega) (by omega) e2) hi hj e
theorem meet_self {p z : List Int} (hp : vB p = true) (h : IsMeet p p z) : z = p :=
  valid_eq h.v hp h.len fun i j hi hj => by
    rw [h.len] at hi hj
    rw [h.iff i j hi hj, and_self]
theorem join_self {p z : List Int} (hp : vB p = true) (h : IsJoin p p z) : z = p :=
  valid_eq h.v hp h.len fun i j hi hj => by
    rw [h.len] at hi hj
    exact ⟨fun e => h.least (f := lab p) (fun _ _ _ _ e => e) (fun _ _ _ _ e => e) hi hj e, fun e => h.left hi hj e⟩
theorem meet_absorb {p q j z : List Int} (hp : vB p = true) (hj : IsJoin p q j) (h : IsMeet p j z) : z = p :=
  valid_eq h.v hp h.len fun a b ha hb => by
    rw [h.len] at ha hb
    rw [h.iff a b ha hb]
    exact ⟨fun e => e.1, fun e => ⟨e, hj.left ha hb e⟩⟩
theorem join_absorb {p q m z : List Int} (hp : vB p = true) (hm : IsMeet p q m) (h : IsJoin p m z) : z = p :=
  valid_eq h.v hp h.len fun a b ha hb => by
    rw [h.len] at ha hb
    exact ⟨fun e => h.least (f := lab p) (fun _ _ _ _ e => e) (fun x y hx hy e => ((hm.iff x y hx hy).1 e).1) ha hb e, fun e => h.left ha hb e⟩

/-- p refines q -/
def refB (p q : List Int) : Bool := (List.range p.length).all fun i => (List.range i).all fun k => !(lab p i == lab p k) || (lab q i == lab q k)
theorem refB_true {p q : List Int} : refB p q = true ↔ ∀ i j, i < p.length → j < p.length → lab p i = lab p j → lab q i = lab q j := by
  unfold refB
  simp only [List.all_eq_true, List.mem_range, Bool.or_eq_true, Bool.not_eq_true', beq_eq_false_iff_ne, beq_iff_eq]
  constructor
  · intro h i j hi hj e
    rcases Nat.lt_trichotomy i j with hl | hl | hl
    · rcases h j hj i hl with h2 | h2
      · exact absurd e.symm h2
      · exact h2.symm
    · rw [hl]
    · rcases h i hi j hl with h2 | h2
      · exact absurd e h2
      · exact h2
  · intro h i hi k hk
    by_cases e : lab p i = lab p k
    · exact .inr (h i k hi (by omega) e)
    · exact .inl e
theorem refB_meet {p q m : List Int} (hp : vB p = true) (h : IsMeet p q m) : (m == p) = refB p q := by
  rw [Bool.eq_iff_iff, beq_iff_eq, refB_true]
  constructor
  · rintro rfl i j hi hj e
    exact ((h.iff i j hi hj).1 e).2
  · intro hr
    exact valid_eq h.v hp h.len fun i j hi hj => by
      rw [h.len] at hi hj
      rw [h.iff i j hi hj]
      exact ⟨fun e => e.1, fun e => ⟨e, hr i j hi hj e⟩⟩
theorem refB_join {p q z : List Int} (hq : vB q = true) (hl : p.length = q.length) (h : IsJoin p q z) : (z == q) = refB p q := by
  rw [Bool.eq_iff_iff, beq_iff_eq, refB_true]
  constructor
  · rintro rfl i j hi hj e
    exact h.left hi hj e
  · intro hr
    exact valid_eq h.v hq (by rw [h.len, hl]) fun i j hi hj => by
      rw [h.len] at hi hj
      exact ⟨fun e => h.least (f := lab q) hr (fun _ _ _ _ e => e) hi hj e, fun e => h.right hi hj e⟩
theorem refB_refl (p : List Int) : refB p p = true := refB_true.2 fun _ _ _ _ e => e
theorem refB_trans {p q r : List Int} (hl : p.length = q.length) (h1 : refB p q = true) (h2 : refB q r = true) : refB p r = true :=
  refB_true.2 fun i j hi hj e => refB_true.1 h2 i j (by omega) (by omega) (refB_true.1 h1 i j hi hj e)
theorem refB_anti {p q : List Int} (hp : vB p = true) (hq : vB q = true) (hl : p.length = q.length) (h1 : refB p q = true) (h2 : refB q p = true) : p = q :=
  valid_eq hp hq hl fun i j hi hj => ⟨fun e => refB_true.1 h1 i j hi hj e, fun e => refB_true.1 h2 i j (by omega) (by omega) e⟩
theorem IsMeet.ref1 {p q m : List Int} (h : IsMeet p q m) : refB m p = true := refB_true.2 fun i j hi hj e => by
  rw [h.len] at hi hj
  exact ((h.iff i j hi hj).1 e).1
theorem IsMeet.ref2 {p q m : List Int} (h : IsMeet p q m) : refB m q = true := refB_true.2 fun i j hi hj e => by
  rw [h.len] at hi hj
  exact ((h.iff i j hi hj).1 e).2
theorem IsJoin.ref1 {p q z : List Int} (h : IsJoin p q z) : refB p z = true := refB_true.2 fun i j hi hj e => h.left hi hj e
theorem IsJoin.ref2 {p q z : List Int} (h : IsJoin p q z) (hl : p.length = q.length) : refB q z = true := refB_true.2 fun i j hi hj e => h.right (by omega) (by omega) e
end Go.Proofs.Ytdfkgkgglldokaa.Kp
