import Derived.Test.YtdfkgkgglldokaaLat
import Derived.Test.YtdfkgkgglldokaaW6
/- Counts, pairs and greatest sizes of meets and joins. -/
namespace Go.Proofs.Ytdfkgkgglldokaa.Kp
set_option linter.unusedVariables false

/-- finer labels have more classes -/
theorem rank_ref {f g : Nat → Int} {n : Nat} (h : ∀ i j, i < n → j < n → f i = f j → g i = g j) : rank g n ≤ rank f n := by
  induction n with
  | zero => exact Nat.le_refl _
  | succ n ih =>
    have ih' := ih fun i j hi hj => h i j (by omega) (by omega)
    cases hg : newB g n with
    | false => rw [rank_old hg]; have := rank_mono f (show n ≤ n + 1 by omega); omega
    | true =>
      have hf : newB f n = true := newB_true.2 fun k hk e => newB_true.1 hg k hk (h k n (by omega) (by omega) e)
      rw [rank_new hg, rank_new hf]; omega
theorem rank_pos (f : Nat → Int) {n : Nat} (h : 0 < n) : 0 < rank f n := by
  have h0 : newB f 0 = true := newB_true.2 fun k hk => absurd hk (Nat.not_lt_zero _)
  have h1 := rank_new h0
  have := rank_mono f (show 1 ≤ n by omega)
  have h2 : rank f 1 = 1 := h1
  omega
/-- the first ones among n with a label below N -/
def rkN (f : Nat → Int) (N : Nat) : Nat → Nat
  | 0 => 0
  | n + 1 => rkN f N n + (if newB f n = true ∧ f n < (N : Int) then 1 else 0)
theorem rkN_all {f : Nat → Int} {N n : Nat} (h : ∀ i, i < n → f i < (N : Int)) : rkN f N n = rank f n := by
  induction n with
  | zero => rfl
  | succ n ih =>
    show rkN f N n + _ = rank f n + _
    rw [ih fun i hi => h i (by omega)]
    cases hn : newB f n with
    | true => rw [if_pos ⟨rfl, h n (by omega)⟩]; rfl
    | false => rw [if_neg (by simp)]; rfl
theorem rkN_zero {f : Nat → Int} {n : Nat} (h : ∀ i, i < n → 0 ≤ f i) : rkN f 0 n = 0 := by
  induction n with
  | zero => rfl
  | succ n ih =>
    show rkN f 0 n + _ = 0
    rw [ih fun i hi => h i (by omega), if_neg (by have := h n (by omega); omega)]
theorem rkN_succ (f : Nat → Int) (N n : Nat) : rkN f (N + 1) n ≤ rkN f N n + 1 ∧ ((∀ i, i < n → f i ≠ (N : Int)) → rkN f (N + 1) n ≤ rkN f N n) := by
  induction n with
  | zero => exact ⟨Nat.zero_le _, fun _ => Nat.le_refl _⟩
  | succ n ih =>
    obtain ⟨h1, h2⟩ := ih
    show rkN f (N + 1) n + _ ≤ rkN f N n + _ + 1 ∧ ((∀ i, i < n + 1 → f i ≠ (N : Int)) → rkN f (N + 1) n + _ ≤ rkN f N n + _)
    by_cases hnew : newB f n = true
    · rcases Int.lt_trichotomy (f n) (N : Int) with e | e | e
      · rw [if_pos ⟨hnew, by omega⟩, if_pos ⟨hnew, e⟩]
        exact ⟨by omega, fun h => by have := h2 fun i hi => h i (by omega); omega⟩
      · have h3 := h2 fun i hi ei => newB_true.1 hnew i hi (ei.trans e.symm)
        rw [if_pos ⟨hnew, by omega⟩, if_neg (by omega)]
        exact ⟨by omega, fun h => absurd e (h n (by omega))⟩
      · rw [if_neg (by omega), if_neg (by omega)]
        exact ⟨by omega, fun h => by have := h2 fun i hi => h i (by omega); omega⟩
    · rw [if_neg (fun h => hnew h.1), if_neg (fun h => hnew h.1)]
      exact ⟨by omega, fun h => by have := h2 fun i hi => h i (by omega); omega⟩
theorem rank_bd {f : Nat → Int} {N n : Nat} (h : ∀ i, i < n → 0 ≤ f i ∧ f i < (N : Int)) : rank f n ≤ N := by
  rw [← rkN_all fun i hi => (h i hi).2]
  have key : ∀ M, rkN f M n ≤ M := by
    intro M
    induction M with
    | zero => rw [rkN_zero fun i hi => (h i hi).1]; exact Nat.le_refl _
    | succ M ih => have := (rkN_succ f M n).1; omega
  exact key N

/-- classes of a meet -/
theorem meet_prod {p q m : List Int} (hp : vB p = true) (hq : vB q = true) (hl : p.length = q.length) (h : IsMeet p q m) : cntL m ≤ cntL p * cntL q := by
  have e : rank (lab m) p.length = rank (mlab p q) p.length := rank_congr (n := p.length) (fun i j hi hj => by
    rw [h.iff i j hi hj]
    have h2 := (mlab_meet hq hl).iff i j hi hj
    rw [ofF_lab_iff _ _ hi hj] at h2
    exact h2.symm) (Nat.le_refl _)
  unfold cntL at *
  rw [h.len, e]
  refine rank_bd fun i hi => ?_
  have h1 := valid_lt hp hi
  have h2 := valid_lt hq (i := i) (by omega)
  unfold mlab
  obtain ⟨a, ha⟩ : ∃ a : Nat, lab p i = (a : Int) := ⟨(lab p i).toNat, by omega⟩
  obtain ⟨b, hb⟩ : ∃ b : Nat, lab q i = (b : Int) := ⟨(lab q i).toNat, by omega⟩
  unfold cntL at h1 h2 ⊢
  rw [ha] at h1 ⊢
  rw [hb] at h2 ⊢
  generalize rank (lab p) p.length = P at *
  generalize rank (lab q) q.length = Q at *
  have h3 : (a + 1) * Q ≤ P * Q := Nat.mul_le_mul_right _ (by omega)
  rw [Nat.add_mul] at h3
  rw [← Int.natCast_mul]
  omega

/-- pairs -/
theorem prI_ref {f g : Nat → Int} {n i : Nat} (h : ∀ a b, a < n → b < n → f a = f b → g a = g b) (hi : i < n) : ∀ k, k ≤ n → prI g i k ≤ prI f i k := by
  intro k
  induction k with
  | zero => intro _; exact Nat.le_refl _
  | succ k ih =>
    intro hk
    have := ih (by omega)
    show prI g i k + _ ≤ prI f i k + _
    by_cases e : f i = f k
    · rw [if_pos e, if_pos (h i k hi (by omega) e)]; omega
    · rw [if_neg e]; split <;> omega
theorem prN_ref {f g : Nat → Int} {n : Nat} (h : ∀ a b, a < n → b < n → f a = f b → g a = g b) : ∀ k, k ≤ n → prN g k ≤ prN f k := by
  intro k
  induction k with
  | zero => intro _; exact Nat.le_refl _
  | succ k ih =>
    intro hk
    have := ih (by omega)
    have h2 := prI_ref h (show k < n by omega) k (by omega)
    show prN g k + prI g k k ≤ prN f k + prI f k k
    omega
theorem prN_meet {f g h : Nat → Int} {n : Nat} (hm : ∀ a b, a < n → b < n → (f a = f b ∧ g a = g b) → h a = h b) : ∀ k, k ≤ n → prN h k ≤ prN f k + prN g k := by
  intro k
  induction k with
  | zero => intro _; exact Nat.le_refl _
  | succ k ih =>
    intro hk
    have := ih (by omega)
    have key : ∀ j, j ≤ k → prI h k j ≤ prI f k j + prI g k j := by
      intro j
      induction j with
      | zero => intro _; exact Nat.le_refl _
      | succ j ihj =>
        intro hj
        have := ihj (by omega)
        show prI h k j + _ ≤ prI f k j + _ + (prI g k j + _)
        by_cases e1 : f k = f j
        · by_cases e2 : g k = g j
          · rw [if_pos (hm k j (by omega) (by omega) ⟨e1, e2⟩), if_pos e1, if_pos e2]; omega
          · rw [if_pos e1, if_neg e2]; split <;> omega
        · rw [if_neg e1]; split <;> omega
    have h2 := key k (Nat.le_refl _)
    show prN h k + prI h k k ≤ prN f k + prI f k k + (prN g k + prI g k k)
    omega

/-- sizes -/
theorem cntv_ref {f g : Nat → Int} {n i : Nat} (h : ∀ a b, a < n → b < n → f a = f b → g a = g b) (hi : i < n) : ∀ k, k ≤ n → cntv f (f i) k ≤ cntv g (g i) k := by
  intro k
  induction k with
  | zero => intro _; exact Nat.le_refl _
  | succ k ih =>
    intro hk
    have := ih (by omega)
    show cntv f (f i) k + _ ≤ cntv g (g i) k + _
    by_cases e : f k = f i
    · rw [if_pos e, if_pos (h k i (by omega) hi e)]; omega
    · rw [if_neg e]; split <;> omega
theorem mxL_le' (S : List Nat) (N : Nat) (h : ∀ x ∈ S, x ≤ N) : mxL S ≤ N := by
  unfold mxL
  have : ∀ a, a ≤ N → S.foldl max a ≤ N := by
    induction S with
    | nil => intro a ha; exact ha
    | cons x S ih =>
      intro a ha
      exact ih (fun y hy => h y (by simp [hy])) (max a x) (by have := h x (by simp); omega)
  exact this 0 (Nat.zero_le _)
theorem le_mxL (S : List Nat) (x : Nat) (h : x ∈ S) : x ≤ mxL S := by
  unfold mxL
  have key : ∀ (S : List Nat) (a : Nat), a ≤ S.foldl max a := by
    intro S
    induction S with
    | nil => intro a; exact Nat.le_refl _
    | cons y S ih => intro a; have := ih (max a y); simp only [List.foldl_cons]; omega
  have : ∀ (S : List Nat) (a : Nat), x ∈ S → x ≤ S.foldl max a := by
    intro S
    induction S with
    | nil => intro a h; cases h
    | cons y S ih =>
      intro a h
      rcases List.mem_cons.1 h with rfl | h
      · have := key S (max a x); simp only [List.foldl_cons]; omega
      · exact ih _ h
  exact this S 0 h

/-- what one more element does to the classes of a join -/
theorem rank_merge {g h : Nat → Int} {n : Nat} {x y : Int} (hm : ∀ a b, a < n → b < n → h a = h b → g a = g b ∨ (g a = x ∧ g b = y) ∨ (g a = y ∧ g b = x)) : rank g n ≤ rank h n + 1 := by
  have key : ∀ k, k ≤ n → rank g k ≤ rank h k + 1 ∧ (¬ ((∃ i, i < k ∧ g i = x) ∧ ∃ i, i < k ∧ g i = y) → rank g k ≤ rank h k) := by
    intro k
    induction k with
    | zero => intro _; exact ⟨Nat.zero_le _, fun _ => Nat.le_refl _⟩
    | succ k ih =>
      intro hk
      obtain ⟨h1, h2⟩ := ih (by omega)
      have hmono := rank_mono h (show k ≤ k + 1 by omega)
      cases hg : newB g k with
      | false =>
        rw [rank_old hg]
        refine ⟨by omega, fun hn => ?_⟩
        have := h2 fun ⟨⟨i, a, b⟩, ⟨j, c, d⟩⟩ => hn ⟨⟨i, by omega, b⟩, ⟨j, by omega, d⟩⟩
        omega
      | true =>
        cases hh : newB h k with
        | true =>
          rw [rank_new hg, rank_new hh]
          refine ⟨by omega, fun hn => ?_⟩
          have := h2 fun ⟨⟨i, a, b⟩, ⟨j, c, d⟩⟩ => hn ⟨⟨i, by omega, b⟩, ⟨j, by omega, d⟩⟩
          omega
        | false =>
          obtain ⟨j, hj, ej⟩ := newB_false hh
          have hgj := newB_true.1 hg j hj
          rw [rank_new hg, rank_old hh]
          rcases hm j k (by omega) (by omega) ej with e | ⟨e1, e2⟩ | ⟨e1, e2⟩
          · exact absurd e hgj
          · have := h2 fun ⟨_, ⟨i, a, b⟩⟩ => newB_true.1 hg i a (b.trans e2.symm)
            exact ⟨by omega, fun hn => absurd ⟨⟨j, by omega, e1⟩, ⟨k, by omega, e2⟩⟩ hn⟩
          · have := h2 fun ⟨⟨i, a, b⟩, _⟩ => newB_true.1 hg i a (b.trans e2.symm)
            exact ⟨by omega, fun hn => absurd ⟨⟨k, by omega, e2⟩, ⟨j, by omega, e1⟩⟩ hn⟩
  exact (key n (Nat.le_refl _)).1
theorem Jn.up {f g : Nat → Int} {k i j : Nat} (h : Jn f g k i j) : Jn f g (k + 1) i j := by
  induction h with
  | refl i h => exact .refl i (by omega)
  | head i j l a b c d ih => exact .head i j l (by omega) (by omega) c ih

/-- the labels of a join with one more element, which belongs to the classes of a1 and b1 -/
def att (h : Nat → Int) (k a1 b1 z : Nat) : Int := if z < k then (if h z = h b1 then h a1 else h z) else h a1
theorem att_iff {f g h : Nat → Int} {k a1 b1 : Nat} (hh : ∀ a b, a < k → b < k → (h a = h b ↔ Jn f g k a b)) (ha1 : a1 < k) (hb1 : b1 < k) (hf : ∀ i, i < k → f i = f k → h i = h a1) (hg : ∀ i, i < k → g i = g k → h i = h b1)
    (ja : Jn f g (k + 1) a1 k) (jb : Jn f g (k + 1) b1 k) {a b : Nat} (ha : a < k + 1) (hb : b < k + 1) : att h k a1 b1 a = att h k a1 b1 b ↔ Jn f g (k + 1) a b := by
  have toK : ∀ z, z < k + 1 → att h k a1 b1 z = h a1 → Jn f g (k + 1) z k := fun z hz e => by
    unfold att at e
    by_cases hzk : z < k
    · rw [if_pos hzk] at e
      by_cases e2 : h z = h b1
      · exact ((hh z b1 hzk hb1).1 e2).up.trans jb
      · rw [if_neg e2] at e
        exact ((hh z a1 hzk ha1).1 e).up.trans ja
    · obtain rfl : z = k := by omega
      exact .refl z (by omega)
  constructor
  · intro e
    by_cases e2 : att h k a1 b1 a = h a1
    · exact (toK a ha e2).trans (toK b hb (e.symm.trans e2)).symm
    · have hak : a < k := by
        rcases Nat.lt_or_ge a k with h1 | h1
        · exact h1
        · exact absurd (by unfold att; rw [if_neg (by omega)]) e2
      have e3 : att h k a1 b1 b ≠ h a1 := fun e4 => e2 (e.trans e4)
      have hbk : b < k := by
        rcases Nat.lt_or_ge b k with h1 | h1
        · exact h1
        · exact absurd (by unfold att; rw [if_neg (by omega)]) e3
      have e4 : att h k a1 b1 a = h a := by
        unfold att at e2 ⊢
        rw [if_pos hak] at e2 ⊢
        by_cases e5 : h a = h b1
        · rw [if_pos e5] at e2; exact absurd rfl e2
        · rw [if_neg e5]
      have e5 : att h k a1 b1 b = h b := by
        unfold att at e3 ⊢
        rw [if_pos hbk] at e3 ⊢
        by_cases e5 : h b = h b1
        · rw [if_pos e5] at e3; exact absurd rfl e3
        · rw [if_neg e5]
      rw [e4, e5] at e
      exact ((hh a b hak hbk).1 e).up
  · intro j
    have same : ∀ x y, x < k → y < k → h x = h y → att h k a1 b1 x = att h k a1 b1 y := fun x y hx hy e => by
      unfold att
      rw [if_pos hx, if_pos hy, e]
    have toA : ∀ x, x < k → h x = h a1 → att h k a1 b1 x = att h k a1 b1 k := fun x hx e => by
      unfold att
      rw [if_pos hx, if_neg (Nat.lt_irrefl k), e]
      split <;> rfl
    have toB : ∀ x, x < k → h x = h b1 → att h k a1 b1 x = att h k a1 b1 k := fun x hx e => by
      unfold att
      rw [if_pos hx, if_neg (Nat.lt_irrefl k), if_pos e]
    refine j.keep (h := att h k a1 b1) (fun x y hx hy e => ?_) (fun x y hx hy e => ?_)
    · by_cases hxk : x < k
      · by_cases hyk : y < k
        · exact same x y hxk hyk ((hh x y hxk hyk).2 (.one hxk hyk (.inl e)))
        · obtain rfl : y = k := by omega
          exact toA x hxk (hf x hxk e)
      · obtain rfl : x = k := by omega
        by_cases hyk : y < x
        · exact (toA y hyk (hf y hyk e.symm)).symm
        · obtain rfl : y = x := by omega
          rfl
    · by_cases hxk : x < k
      · by_cases hyk : y < k
        · exact same x y hxk hyk ((hh x y hxk hyk).2 (.one hxk hyk (.inr e)))
        · obtain rfl : y = k := by omega
          exact toB x hxk (hg x hxk e)
      · obtain rfl : x = k := by omega
        by_cases hyk : y < x
        · exact (toB y hyk (hg y hyk e.symm)).symm
        · obtain rfl : y = x := by omega
          rfl
theorem att_rank {h : Nat → Int} {k a1 b1 : Nat} (ha1 : a1 < k) (hb1 : b1 < k) : rank (att h k a1 b1) (k + 1) = rank (att h k a1 b1) k ∧ rank h k ≤ rank (att h k a1 b1) k + 1 ∧ (h a1 = h b1 → rank (att h k a1 b1) k = rank h k) := by
  have low : ∀ z, z < k → att h k a1 b1 z = if h z = h b1 then h a1 else h z := fun z hz => by unfold att; rw [if_pos hz]
  refine ⟨?_, ?_, fun e => ?_⟩
  · refine rank_old ?_
    cases hn : newB (att h k a1 b1) k with
    | false => rfl
    | true =>
      refine absurd ?_ (newB_true.1 hn a1 ha1)
      rw [low a1 ha1]
      unfold att
      rw [if_neg (Nat.lt_irrefl k)]
      split <;> rfl
  · refine rank_merge (x := h b1) (y := h a1) fun a b ha hb e => ?_
    rw [low a ha, low b hb] at e
    by_cases e1 : h a = h b1
    · by_cases e2 : h b = h b1
      · exact .inl (e1.trans e2.symm)
      · rw [if_pos e1, if_neg e2] at e
        exact .inr (.inl ⟨e1, e.symm⟩)
    · by_cases e2 : h b = h b1
      · rw [if_neg e1, if_pos e2] at e
        exact .inr (.inr ⟨e, e2⟩)
      · rw [if_neg e1, if_neg e2] at e
        exact .inl e
  · refine rank_ext (fun z hz => ?_) (Nat.le_refl _)
    rw [low z hz]
    split
    · rename_i e2; rw [e, e2]
    · rfl

/-- the lattice of partitions is semimodular -/
theorem semi {f g m : Nat → Int} {n : Nat} (hm : ∀ a b, a < n → b < n → (m a = m b ↔ f a = f b ∧ g a = g b)) :
    ∀ k, k ≤ n → ∃ h : Nat → Int, (∀ a b, a < k → b < k → (h a = h b ↔ Jn f g k a b)) ∧ rank f k + rank g k ≤ rank m k + rank h k := by
  intro k
  induction k with
  | zero => intro _; exact ⟨fun _ => 0, fun a b ha => absurd ha (Nat.not_lt_zero _), Nat.le_refl _⟩
  | succ k ih =>
    intro hk
    obtain ⟨h, hh, hr⟩ := ih (by omega)
    have hmm := rank_mono m (show k ≤ k + 1 by omega)
    have mnew : ∀ (P : ∀ i, i < k → f i = f k → g i = g k → False), rank m (k + 1) = rank m k + 1 := fun P => rank_new (newB_true.2 fun i hi e => by
      have := (hm i k (by omega) (by omega)).1 e
      exact P i hi this.1 this.2)
    cases hf : newB f k with
    | true =>
      cases hg : newB g k with
      | true =>
        refine ⟨fun z => if z < k then (cls h z : Int) else -1, fun a b ha hb => ?_, ?_⟩
        · have iso : ∀ {a b}, Jn f g (k + 1) a b → (a < k → b < k ∧ Jn f g k a b) ∧ (a = k → b = k) := by
            intro a b j
            induction j with
            | refl i hi => exact ⟨fun h1 => ⟨h1, .refl i h1⟩, fun h1 => h1⟩
            | head i j l hi hj c d ih =>
              refine ⟨fun h1 => ?_, fun h1 => ?_⟩
              · have hjk : j < k := by
                  rcases Nat.lt_or_ge j k with h2 | h2
                  · exact h2
                  · obtain rfl : j = k := by omega
                    rcases c with c | c
                    · exact absurd c (newB_true.1 hf i h1)
                    · exact absurd c (newB_true.1 hg i h1)
                exact ⟨(ih.1 hjk).1, .head i j l h1 hjk c (ih.1 hjk).2⟩
              · subst h1
                rcases Nat.lt_or_ge j i with h2 | h2
                · rcases c with c | c
                  · exact absurd c.symm (newB_true.1 hf j h2)
                  · exact absurd c.symm (newB_true.1 hg j h2)
                · exact ih.2 (by omega)
          by_cases hak : a < k
          · by_cases hbk : b < k
            · simp only [if_pos hak, if_pos hbk]
              rw [cls_iffZ, hh a b hak hbk]
              exact ⟨Jn.up, fun j => ((iso j).1 hak).2⟩
            · simp only [if_pos hak, if_neg hbk]
              exact ⟨fun e => by omega, fun j => absurd ((iso j).1 hak).1 hbk⟩
          · obtain rfl : a = k := by omega
            by_cases hbk : b < a
            · simp only [if_neg hak, if_pos hbk]
              exact ⟨fun e => by omega, fun j => absurd ((iso j).2 rfl) (by omega)⟩
            · obtain rfl : b = a := by omega
              exact ⟨fun _ => .refl b (by omega), fun _ => rfl⟩
        · have h1 : rank (fun z => if z < k then (cls h z : Int) else -1) k = rank h k :=
            rank_congr (n := k) (fun a b ha hb => by simp only [if_pos ha, if_pos hb]; exact cls_iffZ) (Nat.le_refl _)
          have h2 : rank (fun z => if z < k then (cls h z : Int) else -1) (k + 1) = rank (fun z => if z < k then (cls h z : Int) else -1) k + 1 :=
            rank_new (newB_true.2 fun i hi e => by simp only [if_pos hi, if_neg (Nat.lt_irrefl k)] at e; omega)
          rw [h2, h1, rank_new hf, rank_new hg, mnew fun i hi e1 _ => newB_true.1 hf i hi e1]
          omega
      | false =>
        obtain ⟨b1, hb1, eb⟩ := newB_false hg
        have jb : Jn f g (k + 1) b1 k := .one (by omega) (by omega) (.inr eb)
        refine ⟨att h k b1 b1, fun a b ha hb => att_iff hh hb1 hb1 (fun i hi e => absurd e (newB_true.1 hf i hi)) (fun i hi e => (hh i b1 hi hb1).2 (.one hi hb1 (.inr (e.trans eb.symm)))) jb jb ha hb, ?_⟩
        obtain ⟨r1, _, r3⟩ := att_rank (h := h) hb1 hb1
        rw [r1, r3 rfl, rank_new hf, rank_old hg, mnew fun i hi e1 _ => newB_true.1 hf i hi e1]
        omega
    | false =>
      obtain ⟨a1, ha1, ea⟩ := newB_false hf
      have ja : Jn f g (k + 1) a1 k := .one (by omega) (by omega) (.inl ea)
      cases hg : newB g k with
      | true =>
        refine ⟨att h k a1 a1, fun a b ha hb => att_iff hh ha1 ha1 (fun i hi e => (hh i a1 hi ha1).2 (.one hi ha1 (.inl (e.trans ea.symm)))) (fun i hi e => absurd e (newB_true.1 hg i hi)) ja ja ha hb, ?_⟩
        obtain ⟨r1, _, r3⟩ := att_rank (h := h) ha1 ha1
        rw [r1, r3 rfl, rank_old hf, rank_new hg, mnew fun i hi _ e2 => newB_true.1 hg i hi e2]
        omega
      | false =>
        obtain ⟨b1, hb1, eb⟩ := newB_false hg
        have jb : Jn f g (k + 1) b1 k := .one (by omega) (by omega) (.inr eb)
        have hfA : ∀ i, i < k → f i = f k → h i = h a1 := fun i hi e => (hh i a1 hi ha1).2 (.one hi ha1 (.inl (e.trans ea.symm)))
        have hgB : ∀ i, i < k → g i = g k → h i = h b1 := fun i hi e => (hh i b1 hi hb1).2 (.one hi hb1 (.inr (e.trans eb.symm)))
        refine ⟨att h k a1 b1, fun a b ha hb => att_iff hh ha1 hb1 hfA hgB ja jb ha hb, ?_⟩
        obtain ⟨r1, r2, r3⟩ := att_rank (h := h) ha1 hb1
        rw [r1, rank_old hf, rank_old hg]
        by_cases e : h a1 = h b1
        · rw [r3 e]; omega
        · rw [mnew fun i hi e1 e2 => e ((hfA i hi e1).symm.trans (hgB i hi e2))]
          omega

/-- P4.5 on lists -/
theorem semimodular {p q m j : List Int} (hl : p.length = q.length) (hm : IsMeet p q m) (hj : IsJoin p q j) : cntL p + cntL q ≤ cntL m + cntL j := by
  obtain ⟨h, hh, hr⟩ := semi (f := lab p) (g := lab q) (m := lab m) (n := p.length) (fun a b ha hb => hm.iff a b ha hb) p.length (Nat.le_refl _)
  have e : rank (lab j) p.length = rank h p.length := rank_congr (n := p.length) (fun a b ha hb => by rw [hj.iff a b ha hb, hh a b ha hb]) (Nat.le_refl _)
  unfold cntL
  rw [hm.len, hj.len, ← hl, e]
  exact hr
end Go.Proofs.Ytdfkgkgglldokaa.Kp
