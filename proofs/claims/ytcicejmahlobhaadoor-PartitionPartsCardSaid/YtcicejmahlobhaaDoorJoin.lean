import Derived.Test.YtcicejmahlobhaaDoorMath
/- Plain laws of meets, joins and refinement, and of the links that find a join. -/
namespace Go.Proofs.YtcicejmahlobhaaDoor.Kp

/-- linked through equal labels of f or g, below n -/
inductive Jn (f g : Nat → Int) (n : Nat) : Nat → Nat → Prop
  | refl (i : Nat) : i < n → Jn f g n i i
  | head (i j k : Nat) : i < n → j < n → (f i = f j ∨ g i = g j) → Jn f g n j k → Jn f g n i k

theorem Jn.lt {f g : Nat → Int} {n i j : Nat} (h : Jn f g n i j) : i < n ∧ j < n := by
  induction h with
  | refl i h => exact ⟨h, h⟩
  | head i j k h1 h2 h3 h4 ih => exact ⟨h1, ih.2⟩
theorem Jn.one {f g : Nat → Int} {n i j : Nat} (hi : i < n) (hj : j < n) (h : f i = f j ∨ g i = g j) : Jn f g n i j := .head i j j hi hj h (.refl j hj)
theorem Jn.trans {f g : Nat → Int} {n i j k : Nat} (h1 : Jn f g n i j) (h2 : Jn f g n j k) : Jn f g n i k := by
  induction h1 with
  | refl i h => exact h2
  | head i j _ a b c d ih => exact .head i j k a b c (ih h2)
theorem Jn.symm {f g : Nat → Int} {n i j : Nat} (h : Jn f g n i j) : Jn f g n j i := by
  induction h with
  | refl i h => exact .refl i h
  | head i j k a b c d ih => exact ih.trans (.one b a (c.imp Eq.symm Eq.symm))
/-- whatever labels keep the links keep the whole -/
theorem Jn.keep {f g h : Nat → Int} {n i j : Nat} (hf : ∀ a b, a < n → b < n → f a = f b → h a = h b) (hg : ∀ a b, a < n → b < n → g a = g b → h a = h b) (hj : Jn f g n i j) : h i = h j := by
  induction hj with
  | refl i _ => rfl
  | head i j k a b c d ih =>
    rw [← ih]
    rcases c with c | c
    · exact hf i j a b c
    · exact hg i j a b c

/-- z is the meet of p and q -/
structure IsMeet (p q z : List Int) : Prop where
  v : vB z = true
  len : z.length = p.length
  iff : ∀ i j, i < p.length → j < p.length → (lab z i = lab z j ↔ lab p i = lab p j ∧ lab q i = lab q j)
/-- z is the join of p and q -/
structure IsJoin (p q z : List Int) : Prop where
  v : vB z = true
  len : z.length = p.length
  iff : ∀ i j, i < p.length → j < p.length → (lab z i = lab z j ↔ Jn (lab p) (lab q) p.length i j)
theorem IsMeet.uniq {p q a b : List Int} (ha : IsMeet p q a) (hb : IsMeet p q b) : a = b :=
  valid_eq ha.v hb.v (by rw [ha.len, hb.len]) fun i j hi hj => by
    rw [ha.len] at hi hj
    rw [ha.iff i j hi hj, hb.iff i j hi hj]
theorem IsJoin.uniq {p q a b : List Int} (ha : IsJoin p q a) (hb : IsJoin p q b) : a = b :=
  valid_eq ha.v hb.v (by rw [ha.len, hb.len]) fun i j hi hj => by
    rw [ha.len] at hi hj
    rw [ha.iff i j hi hj, hb.iff i j hi hj]
theorem IsMeet.of {p q : List Int} (f : Nat → Int) (h : ∀ i j, i < p.length → j < p.length → (f i = f j ↔ lab p i = lab p j ∧ lab q i = lab q j)) : IsMeet p q (ofF f p.length) where
  v := vB_ofF _ _
  len := ofF_length _ _
  iff i j hi hj := by rw [ofF_lab_iff f _ hi hj]; exact h i j hi hj
theorem IsJoin.of {p q : List Int} (f : Nat → Int) (h : ∀ i j, i < p.length → j < p.length → (f i = f j ↔ Jn (lab p) (lab q) p.length i j)) : IsJoin p q (ofF f p.length) where
  v := vB_ofF _ _
  len := ofF_length _ _
  iff i j hi hj := by rw [ofF_lab_iff f _ hi hj]; exact h i j hi hj

/-- links below m: each leads on to r, d says how far at most -/
structure Fo (L : List Nat) (m : Nat) (r d : Nat → Nat) : Prop where
  len : L.length = m
  lt : ∀ c, c < m → L.getD c 0 < m
  fix : ∀ c, c < m → r c < m ∧ L.getD (r c) 0 = r c
  step : ∀ c, c < m → r (L.getD c 0) = r c
  self : ∀ c, c < m → L.getD c 0 = c → r c = c
  dec : ∀ c, c < m → L.getD c 0 ≠ c → d (L.getD c 0) < d c

theorem getD_setN (L : List Nat) (i x j : Nat) (h : i < L.length) : (L.set i x).getD j 0 = if i = j then x else L.getD j 0 := by
  rw [List.getD_eq_getElem?_getD, List.getElem?_set, List.getD_eq_getElem?_getD]
  by_cases e : i = j
  · rw [if_pos e, if_pos e, if_pos h]; rfl
  · rw [if_neg e, if_neg e]

theorem Fo.start (m : Nat) : Fo (List.range m) m id (fun _ => 0) := by
  have g : ∀ c, c < m → (List.range m).getD c 0 = c := fun c hc => by rw [List.getD_eq_getElem?_getD, List.getElem?_range hc]; rfl
  exact ⟨List.length_range, fun c hc => by rw [g c hc]; exact hc, fun c hc => ⟨hc, g c hc⟩, fun c hc => by rw [g c hc], fun c hc _ => rfl, fun c hc h => absurd (g c hc) h⟩

/-- a link that skips -/
theorem Fo.skip {L : List Nat} {m : Nat} {r d : Nat → Nat} (h : Fo L m r d) {c : Nat} (hc : c < m) (hn : L.getD c 0 ≠ c) : Fo (L.set c (L.getD (L.getD c 0) 0)) m r d := by
  have hl : c < L.length := by rw [h.len]; exact hc
  have h1 := h.lt c hc
  have h2 := h.lt _ h1
  have hd : d (L.getD (L.getD c 0) 0) < d c := by
    have a := h.dec c hc hn
    by_cases e : L.getD (L.getD c 0) 0 = L.getD c 0
    · rw [e]; exact a
    · have := h.dec _ h1 e; omega
  refine ⟨by rw [List.length_set, h.len], fun x hx => ?_, fun x hx => ⟨(h.fix x hx).1, ?_⟩, fun x hx => ?_, fun x hx => ?_, fun x hx => ?_⟩
  · rw [getD_setN _ _ _ _ hl]; split
    · exact h2
    · exact h.lt x hx
  · rw [getD_setN _ _ _ _ hl]; split
    · rename_i e
      have := (h.fix x hx).2
      rw [← e] at this
      exact absurd this hn
    · exact (h.fix x hx).2
  · rw [getD_setN _ _ _ _ hl]; split
    · rename_i e; rw [h.step _ h1, h.step _ hc, e]
    · exact h.step x hx
  · rw [getD_setN _ _ _ _ hl]; split
    · rename_i e; intro e2
      rw [e2, e] at hd; omega
    · exact h.self x hx
  · rw [getD_setN _ _ _ _ hl]; split
    · rename_i e; intro _; rw [← e]; exact hd
    · exact h.dec x hx

/-- one tree below another -/
theorem Fo.hang {L : List Nat} {m : Nat} {r d : Nat → Nat} (h : Fo L m r d) {x y : Nat} (hx : x < m) (hy : y < m) :
    ∃ d', Fo (L.set (r x) (r y)) m (fun c => if r c = r x then r y else r c) d' := by
  have hrr : ∀ c, c < m → r (r c) = r c := fun c hc => h.self _ (h.fix c hc).1 (h.fix c hc).2
  have hl : r x < L.length := by rw [h.len]; exact (h.fix x hx).1
  by_cases hxy : r x = r y
  · refine ⟨d, ?_⟩
    have e1 : L.set (r x) (r y) = L := by
      apply List.ext_getElem?
      intro i
      rw [List.getElem?_set]
      by_cases e : r x = i
      · have h2 := (h.fix x hx).2
        rw [if_pos e, if_pos hl, ← hxy, ← e, List.getElem?_eq_getElem hl]
        rw [List.getD_eq_getElem?_getD, List.getElem?_eq_getElem hl] at h2
        simp only [Option.getD_some] at h2
        rw [h2]
      · rw [if_neg e]
    have e2 : (fun c => if r c = r x then r y else r c) = r := by
      funext c
      split
      · rename_i e; rw [e, hxy]
      · rfl
    rw [e1, e2]; exact h
  · refine ⟨fun c => d c + (if r c = r x then d (r y) + 1 else 0), ?_⟩
    have hyy := hrr y hy
    refine ⟨by rw [List.length_set, h.len], fun c hc => ?_, fun c hc => ?_, fun c hc => ?_, fun c hc => ?_, fun c hc => ?_⟩
    · rw [getD_setN _ _ _ _ hl]; split
      · exact (h.fix y hy).1
      · exact h.lt c hc
    · show (if r c = r x then r y else r c) < m ∧ (L.set (r x) (r y)).getD (if r c = r x then r y else r c) 0 = (if r c = r x then r y else r c)
      split
      · rw [getD_setN _ _ _ _ hl, if_neg hxy]; exact h.fix y hy
      · rename_i e
        rw [getD_setN _ _ _ _ hl, if_neg (fun e2 => e e2.symm)]; exact h.fix c hc
    · show (if r ((L.set (r x) (r y)).getD c 0) = r x then r y else r ((L.set (r x) (r y)).getD c 0)) = (if r c = r x then r y else r c)
      rw [getD_setN _ _ _ _ hl]
      by_cases e : r x = c
      · rw [if_pos e, hyy, if_neg (fun e2 => hxy e2.symm), if_pos (by rw [← e]; exact hrr x hx)]
      · rw [if_neg e, h.step c hc]
    · intro e
      show (if r c = r x then r y else r c) = c
      rw [getD_setN _ _ _ _ hl] at e
      by_cases e2 : r x = c
      · rw [if_pos e2] at e
        rw [← e2] at e
        exact absurd e.symm hxy
      · rw [if_neg e2] at e
        have := h.self c hc e
        rw [this, if_neg (fun e3 => e2 e3.symm)]
    · intro e
      rw [getD_setN _ _ _ _ hl] at e ⊢
      by_cases e2 : r x = c
      · rw [if_pos e2]
        have hc2 : r c = r x := by rw [← e2]; exact hrr x hx
        simp only [hyy, hc2, if_neg (fun e3 : r y = r x => hxy e3.symm), if_true]
        omega
      · rw [if_neg e2] at e ⊢
        have h1 := h.dec c hc e
        have h2 := h.step c hc
        simp only [h2]
        omega

/-- what the links say behind k elements -/
structure Lk (p q : List Int) (k : Nat) (r : Nat → Nat) : Prop where
  sound : ∀ i j, i < p.length → j < p.length → r (lab p i).toNat = r (lab p j).toNat → Jn (lab p) (lab q) p.length i j
  done : ∀ i, i < k → r (lab p i).toNat = r (lab p (first (lab q) i)).toNat

theorem Lk.start {p q : List Int} (hp : vB p = true) : Lk p q 0 id where
  sound i j hi hj h := .one hi hj (.inl (by
    have h1 := valid_lt hp hi
    have h2 := valid_lt hp hj
    simp only [id_eq] at h
    omega))
  done i hi := absurd hi (Nat.not_lt_zero _)

theorem Lk.next {p q : List Int} {k : Nat} {r : Nat → Nat} (hk : k < p.length) (h : Lk p q k r) :
    Lk p q (k + 1) (fun c => if r c = r (lab p k).toNat then r (lab p (first (lab q) k)).toNat else r c) where
  sound i j hi hj e := by
    have hf : first (lab q) k < p.length := by have := first_le (lab q) k; omega
    have hl : Jn (lab p) (lab q) p.length k (first (lab q) k) := .one hk hf (.inr (first_eq (lab q) k).symm)
    by_cases h1 : r (lab p i).toNat = r (lab p k).toNat
    · have j1 := h.sound i k hi hk h1
      by_cases h2 : r (lab p j).toNat = r (lab p k).toNat
      · exact j1.trans (h.sound j k hj hk h2).symm
      · rw [if_pos h1, if_neg h2] at e
        exact j1.trans (hl.trans (h.sound _ _ hf hj e))
    · by_cases h2 : r (lab p j).toNat = r (lab p k).toNat
      · rw [if_neg h1, if_pos h2] at e
        exact (h.sound _ _ hi hf e).trans (hl.symm.trans (h.sound j k hj hk h2).symm)
      · rw [if_neg h1, if_neg h2] at e
        exact h.sound i j hi hj e
  done i hi := by
    by_cases e : i = k
    · subst e
      rw [if_pos rfl]
      split
      · rfl
      · rfl
    · rw [h.done i (by omega)]

theorem Lk.join {p q : List Int} {r : Nat → Nat} (h : Lk p q p.length r) : IsJoin p q (ofF (fun i => (r (lab p i).toNat : Int)) p.length) :=
  IsJoin.of _ fun i j hi hj => by
    constructor
    · intro e; exact h.sound i j hi hj (by omega)
    · intro e
      refine e.keep (h := fun i => (r (lab p i).toNat : Int)) (fun a b _ _ e => by simp only [e]) (fun a b ha hb e => ?_)
      have h1 := h.done a ha
      have h2 := h.done b hb
      rw [first_same e] at h1
      show (r (lab p a).toNat : Int) = (r (lab p b).toNat : Int)
      rw [h1, h2]

/-- the reference's least: links only, and as many as there are -/
structure Lm (p q : List Int) (e : Nat → Nat) : Prop where
  le : ∀ i, i < p.length → e i ≤ i
  sound : ∀ i, i < p.length → Jn (lab p) (lab q) p.length i (e i)
theorem Lm.start (p q : List Int) : Lm p q id := ⟨fun _ _ => Nat.le_refl _, fun i hi => .refl i hi⟩
theorem Lm.next {p q : List Int} {e : Nat → Nat} (h : Lm p q e) {i k : Nat} (hi : i < p.length) (hk : k < p.length) (hl : lab p i = lab p k ∨ lab q i = lab q k) (hlt : e k < e i) : Lm p q (fun x => if x = i then e k else e x) where
  le x hx := by
    split
    · rename_i e2; have := h.le i hi; omega
    · exact h.le x hx
  sound x hx := by
    split
    · rename_i e2; subst e2; exact (Jn.one hx hk hl).trans (h.sound k hk)
    · exact h.sound x hx
theorem Lm.join {p q : List Int} {e : Nat → Nat} (h : Lm p q e) (hd : ∀ i k, i < p.length → k < p.length → (lab p i = lab p k ∨ lab q i = lab q k) → ¬ e k < e i) : IsJoin p q (ofF (fun i => (e i : Int)) p.length) :=
  IsJoin.of _ fun i j hi hj => by
    constructor
    · intro h2
      have h3 := h.sound j hj
      rw [show e j = e i by omega] at h3
      exact (h.sound i hi).trans h3.symm
    · intro h2
      have key : ∀ a b, a < p.length → b < p.length → (lab p a = lab p b ∨ lab q a = lab q b) → (e a : Int) = (e b : Int) := fun a b ha hb hl => by
        have h3 := hd a b ha hb hl
        have h4 := hd b a hb ha (hl.imp Eq.symm Eq.symm)
        omega
      exact h2.keep (h := fun i => (e i : Int)) (fun a b ha hb e => key a b ha hb (.inl e)) (fun a b ha hb e => key a b ha hb (.inr e))
end Go.Proofs.YtcicejmahlobhaaDoor.Kp
