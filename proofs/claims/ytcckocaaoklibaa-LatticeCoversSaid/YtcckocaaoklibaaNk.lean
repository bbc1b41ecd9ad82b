/- Heights, as plain steps: what the rounds of Height keep. -/
import Derived.Test.YtcckocaaoklibaaNj
namespace Go.Proofs.Ytcckocaaoklibaa.Kl
set_option linter.unusedVariables false

/-- H is one more than the greatest m with P a m for some level a -/
structure IsH (P : Nat → Nat → Prop) (n H : Nat) : Prop where
  some_ : ∃ a, a < n ∧ P (H - 1) a
  pos : 1 ≤ H
  all : ∀ a m, a < n → P m a → m + 1 ≤ H
theorem IsH.uniq {P Q : Nat → Nat → Prop} {n H K : Nat} (h : IsH P n H) (k : IsH Q n K) (e : ∀ m, (∃ a, a < n ∧ P m a) ↔ ∃ a, a < n ∧ Q m a) : H = K := by
  obtain ⟨a, ha, h1⟩ := (e _).1 h.some_
  obtain ⟨b, hb, h2⟩ := (e _).2 k.some_
  have := h.pos
  have := k.pos
  have := k.all a _ ha h1
  have := h.all b _ hb h2
  omega

/-- the function, but for a -/
def upd (h : Nat → Nat) (a x : Nat) : Nat → Nat := fun i => if i = a then x else h i
theorem upd_same (h : Nat → Nat) (a x : Nat) : upd h a x a = x := if_pos rfl
theorem upd_other (h : Nat → Nat) {a i : Nat} (x : Nat) (e : i ≠ a) : upd h a x i = h i := if_neg e
/-- what always holds of the heights: no height is too great, and H is their greatest -/
structure HtU (L : Nat → Nat → Bool) (n : Nat) (h : Nat → Nat) (H : Nat) : Prop where
  up : ∀ a, a < n → ∀ m, h a = m + 1 → dn L n m a
  top : H = 0 ∨ ∃ a, a < n ∧ dn L n (H - 1) a
/-- at the head of round r -/
structure Ht0 (L : Nat → Nat → Bool) (n r : Nat) (h : Nat → Nat) (H : Nat) : Prop where
  u : HtU L n h H
  lo : ∀ a, a < n → ∀ m, m < r → dn L n m a → m + 1 ≤ h a
  le : ∀ a, a < n → h a ≤ H
/-- in round r, ahead of level a -/
structure Ht1 (L : Nat → Nat → Bool) (n r a : Nat) (h : Nat → Nat) (H : Nat) : Prop where
  z : Ht0 L n r h H
  nx : ∀ c, c < a → ∀ m, m < r + 1 → dn L n m c → m + 1 ≤ h c
/-- in round r, at level a, ahead of level b -/
structure Ht2 (L : Nat → Nat → Bool) (n r a b : Nat) (h : Nat → Nat) (H : Nat) : Prop where
  u : HtU L n h H
  lo : ∀ c, c < n → ∀ m, m < r → dn L n m c → m + 1 ≤ h c
  le : ∀ c, c < n → c ≠ a → h c ≤ H
  nx : ∀ c, c < a → ∀ m, m < r + 1 → dn L n m c → m + 1 ≤ h c
  one : 1 ≤ h a
  dn_ : ∀ c, c < b → sb L c a → h c + 1 ≤ h a
section
variable {L : Nat → Nat → Bool} {n r a b : Nat} {h : Nat → Nat} {H : Nat}
theorem HtU.small (q : HtU L n h H) (hL : Lat L n) (ha : a < n) : h a ≤ n := by
  cases e : h a with
  | zero => omega
  | succ m => have := hL.dn_bound ha (q.up a ha m e); omega
theorem HtU.top_small (q : HtU L n h H) (hL : Lat L n) : H ≤ n := by
  rcases q.top with e | ⟨c, hc, e⟩
  · omega
  · have := hL.dn_bound hc e; omega
theorem Ht0.start (L : Nat → Nat → Bool) (n : Nat) : Ht0 L n 0 (fun _ => 0) 0 :=
  ⟨⟨fun a _ m e => by omega, .inl rfl⟩, fun a _ m hm => by omega, fun _ _ => Nat.le_refl _⟩
theorem Ht0.first (q : Ht0 L n r h H) : Ht1 L n r 0 h H := ⟨q, fun c hc => by omega⟩
theorem Ht1.last (q : Ht1 L n r n h H) : Ht0 L n (r + 1) h H := ⟨q.z.u, q.nx, q.z.le⟩
/-- h a := max (h a) 1 -/
theorem Ht1.enter (q : Ht1 L n r a h H) (ha : a < n) {x : Nat} (hx : x = max (h a) 1) : Ht2 L n r a 0 (upd h a x) H := by
  subst hx
  have mono : ∀ c, h c ≤ upd h a (max (h a) 1) c := fun c => by
    by_cases e : c = a
    · subst e; rw [upd_same]; omega
    · rw [upd_other _ _ e]; omega
  refine ⟨⟨fun c hc m e => ?_, q.z.u.top⟩, fun c hc m hm d => Nat.le_trans (q.z.lo c hc m hm d) (mono c), fun c hc e => ?_, fun c hc m hm d => Nat.le_trans (q.nx c hc m hm d) (mono c), ?_, fun c hc => by omega⟩
  · by_cases e2 : c = a
    · subst e2
      rw [upd_same] at e
      by_cases e3 : h c = m + 1
      · exact q.z.u.up c hc m e3
      · obtain rfl : m = 0 := by omega
        exact trivial
    · rw [upd_other _ _ e2] at e
      exact q.z.u.up c hc m e
  · rw [upd_other _ _ e]; exact q.z.le c hc
  · rw [upd_same]; omega
/-- nothing changes at b -/
theorem Ht2.skip (q : Ht2 L n r a b h H) (hb : ¬ sb L b a) : Ht2 L n r a (b + 1) h H :=
  ⟨q.u, q.lo, q.le, q.nx, q.one, fun c hc hs => by
    by_cases e : c = b
    · subst e; exact absurd hs hb
    · exact q.dn_ c (by omega) hs⟩
/-- h a := max (h a) (h b + 1) -/
theorem Ht2.step (q : Ht2 L n r a b h H) (ha : a < n) (hbn : b < n) (hb : sb L b a) {x : Nat} (hx : x = max (h a) (h b + 1)) : Ht2 L n r a (b + 1) (upd h a x) H := by
  subst hx
  have mono : ∀ c, h c ≤ upd h a (max (h a) (h b + 1)) c := fun c => by
    by_cases e : c = a
    · subst e; rw [upd_same]; omega
    · rw [upd_other _ _ e]; omega
  refine ⟨⟨fun c hc m e => ?_, q.u.top⟩, fun c hc m hm d => Nat.le_trans (q.lo c hc m hm d) (mono c), fun c hc e => ?_, fun c hc m hm d => Nat.le_trans (q.nx c hc m hm d) (mono c), ?_, fun c hc hs => ?_⟩
  · by_cases e2 : c = a
    · subst e2
      rw [upd_same] at e
      by_cases e3 : h c = m + 1
      · exact q.u.up c hc m e3
      · obtain rfl : m = h b := by omega
        cases e4 : h b with
        | zero => exact trivial
        | succ k => exact ⟨b, hbn, hb, q.u.up b hbn k e4⟩
    · rw [upd_other _ _ e2] at e
      exact q.u.up c hc m e
  · rw [upd_other _ _ e]; exact q.le c hc e
  · rw [upd_same]; have := q.one; omega
  · have hca : c ≠ a := hs.2
    rw [upd_same, upd_other _ _ hca]
    by_cases e : c = b
    · subst e; omega
    · have := q.dn_ c (by omega) hs; omega
/-- H := max H (h a) -/
theorem Ht2.leave (q : Ht2 L n r a n h H) (ha : a < n) {x : Nat} (hx : x = max H (h a)) : Ht1 L n r (a + 1) h x := by
  subst hx
  have hlo : ∀ m, m < r + 1 → dn L n m a → m + 1 ≤ h a := fun m hm d => by
    cases m with
    | zero => exact q.one
    | succ m =>
      obtain ⟨c, hc, hs, d2⟩ := d
      have := q.lo c hc m (by omega) d2
      have := q.dn_ c hc hs
      omega
  refine ⟨⟨⟨q.u.up, ?_⟩, q.lo, fun c hc => ?_⟩, fun c hc m hm d => ?_⟩
  · by_cases e : H < h a
    · right
      refine ⟨a, ha, ?_⟩
      have := q.one
      have := q.u.up a ha (h a - 1) (by omega)
      rw [show max H (h a) - 1 = h a - 1 by omega]
      exact this
    · rw [show max H (h a) = H by omega]; exact q.u.top
  · by_cases e : c = a
    · subst e; omega
    · have := q.le c hc e; omega
  · by_cases e : c = a
    · subst e; exact hlo m hm d
    · exact q.nx c (by omega) m hm d
theorem Ht0.done (q : Ht0 L n n h H) (hL : Lat L n) (hn : 0 < n) : IsH (dn L n) n H := by
  have hall : ∀ a m, a < n → dn L n m a → m + 1 ≤ H := fun a m ha d => by
    have := q.lo a ha m (hL.dn_bound ha d) d
    have := q.le a ha
    omega
  have h1 := hall 0 0 hn trivial
  refine ⟨?_, by omega, hall⟩
  rcases q.u.top with e | e
  · omega
  · exact e
end

/-- the row of the heights -/
def htRow (h : Nat → Nat) (n : Nat) : List Int := (List.range n).map fun a => (h a : Int)
theorem htRow_length (h : Nat → Nat) (n : Nat) : (htRow h n).length = n := by simp [htRow]
theorem htRow_get (h : Nat → Nat) {n a : Nat} (ha : a < n) : (htRow h n).getD a 0 = (h a : Int) := by
  unfold htRow
  rw [List.getD_eq_getElem?_getD, List.getElem?_map, List.getElem?_range ha]; rfl
theorem htRow_set (h : Nat → Nat) (n a x : Nat) : (htRow h n).set a (x : Int) = htRow (upd h a x) n := by
  apply List.ext_getElem
  · simp [htRow]
  · intro i h1 h2
    rw [List.getElem_set]
    simp only [htRow, List.getElem_map, List.getElem_range]
    by_cases e : a = i
    · subst e; rw [if_pos rfl, upd_same]
    · rw [if_neg e, upd_other _ _ (fun q => e q.symm)]
theorem htRow_zero (n : Nat) : List.replicate n (0 : Int) = htRow (fun _ => 0) n := by
  apply List.ext_getElem
  · simp [htRow]
  · intro i h1 h2; simp [htRow]

/-- the greatest number of steps upwards from a, and 1 -/
structure IsC (L : Nat → Nat → Bool) (n a C : Nat) : Prop where
  pos : 1 ≤ C
  some_ : up L n (C - 1) a
  all : ∀ m, up L n m a → m + 1 ≤ C
/-- best of the covers (a, c) with c among the first k pairs -/
structure IsB (L : Nat → Nat → Bool) (n a : Nat) (ps : List (Int × Int)) (k B : Nat) : Prop where
  some_ : B = 0 ∨ ∃ c, c < n ∧ cvB L n a c = true ∧ up L n (B - 1) c
  all : ∀ j (c : Nat), j < k → ps.getD j (0, 0) = ((a : Int), (c : Int)) → ∀ m, up L n m c → m + 1 ≤ B
section
variable {L : Nat → Nat → Bool} {n a k B : Nat}
theorem IsB.start (ps : List (Int × Int)) : IsB L n a ps 0 0 := ⟨.inl rfl, fun j c hj => by omega⟩
theorem IsB.skip {ps : List (Int × Int)} (q : IsB L n a ps k B) (hne : (ps.getD k (0, 0)).1 ≠ (a : Int)) : IsB L n a ps (k + 1) B :=
  ⟨q.some_, fun j c hj e m d => by
    by_cases hk : j = k
    · subst hk; rw [e] at hne; exact absurd rfl hne
    · exact q.all j c (by omega) e m d⟩
theorem IsB.step {ps : List (Int × Int)} {c C x : Nat} (q : IsB L n a ps k B) (hc : c < n) (hcv : cvB L n a c = true) (hps : ps.getD k (0, 0) = ((a : Int), (c : Int))) (hC : IsC L n c C) (hx : x = max B C) : IsB L n a ps (k + 1) x := by
  subst hx
  have hp := hC.pos
  refine ⟨?_, fun j d hj e m u => ?_⟩
  · right
    by_cases e : B < C
    · exact ⟨c, hc, hcv, by rw [show max B C - 1 = C - 1 by omega]; exact hC.some_⟩
    · rw [show max B C = B by omega]
      rcases q.some_ with e2 | e2
      · omega
      · exact e2
  · by_cases hk : j = k
    · subst hk
      rw [hps] at e
      injection e with _ e
      obtain rfl : c = d := by omega
      have := hC.all m u
      omega
    · have := q.all j d (by omega) e m u
      omega
theorem IsB.done (hL : Lat L n) (ha : a < n) (q : IsB L n a (cvTo L n n) (cvTo L n n).length B) : IsC L n a (B + 1) := by
  refine ⟨by omega, ?_, fun m u => ?_⟩
  · rw [Nat.add_sub_cancel]
    rcases q.some_ with rfl | ⟨c, hc, h1, h2⟩
    · exact trivial
    · cases B with
      | zero => exact trivial
      | succ B => exact hL.up_cover ha |>.2 ⟨c, hc, h1, h2⟩
  · cases m with
    | zero => omega
    | succ m =>
      obtain ⟨c, hc, h1, h2⟩ := (hL.up_cover ha).1 u
      have hm : ((a : Int), (c : Int)) ∈ cvTo L n n := cv_mem.2 ⟨a, c, ha, hc, h1, rfl⟩
      obtain ⟨j, hj, e⟩ := List.getElem_of_mem hm
      have := q.all j c hj (by rw [List.getD_eq_getElem?_getD, List.getElem?_eq_getElem hj, e]; rfl) m h2
      omega
/-- best of all levels below k -/
structure IsT (L : Nat → Nat → Bool) (n k B : Nat) : Prop where
  some_ : B = 0 ∨ ∃ a, a < n ∧ up L n (B - 1) a
  all : ∀ a, a < k → ∀ m, up L n m a → m + 1 ≤ B
theorem IsT.start : IsT L n 0 0 := ⟨.inl rfl, fun a ha => by omega⟩
theorem IsT.step {C x : Nat} (q : IsT L n k B) (hk : k < n) (hC : IsC L n k C) (hx : x = max B C) : IsT L n (k + 1) x := by
  subst hx
  have hp := hC.pos
  refine ⟨?_, fun a ha m u => ?_⟩
  · right
    by_cases e : B < C
    · exact ⟨k, hk, by rw [show max B C - 1 = C - 1 by omega]; exact hC.some_⟩
    · rw [show max B C = B by omega]
      rcases q.some_ with e2 | e2
      · omega
      · exact e2
  · by_cases e : a = k
    · subst e; have := hC.all m u; omega
    · have := q.all a (by omega) m u; omega
theorem IsT.done (q : IsT L n n B) (hn : 0 < n) : IsH (up L n) n B := by
  have h1 := q.all 0 hn 0 trivial
  refine ⟨?_, by omega, fun a m ha u => q.all a ha m u⟩
  rcases q.some_ with e | e
  · omega
  · exact e
theorem IsC.small {C : Nat} (hL : Lat L n) (ha : a < n) (q : IsC L n a C) : C ≤ n := by
  have := hL.up_bound ha q.some_
  have := q.pos
  omega
theorem room_lt {c : Nat} (hL : Lat L n) (ha : a < n) (hc : c < n) (hcv : cvB L n a c = true) : ((List.range n).filter fun d => L c d).length < ((List.range n).filter fun d => L a d).length := by
  have h1 := cvB_iff.1 hcv
  refine filter_lt _ (fun x hx e => hL.pre.trans a c x hc h1.1 e) ⟨a, List.mem_range.2 ha, hL.pre.refl a, ?_⟩
  cases q : L c a with
  | false => rfl
  | true => exact absurd (hL.anti a c ha hc h1.1 q) h1.2.1
end
end Go.Proofs.Ytcckocaaoklibaa.Kl
