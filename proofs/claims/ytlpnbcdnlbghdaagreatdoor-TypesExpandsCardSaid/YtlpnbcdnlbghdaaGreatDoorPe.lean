/- Plain: what an expanded type expands to; one more declaration. Of no program. -/
import Derived.Test.YtlpnbcdnlbghdaaGreatDoorEp
namespace Go.Proofs.YtlpnbcdnlbghdaaGreatDoor
namespace G
set_option linter.unusedVariables false
variable {nmB : ByteArray → Bool}

theorem expT_zero {σ : Sco} {t : G} (h : (expT nmB σ t).2 ≠ 0) : (expT nmB σ t).1 = zero := by
  unfold expT at h ⊢
  by_cases h0 : chk nmB t ≠ 0
  · rw [if_pos h0]
  · rw [if_neg h0] at h ⊢
    by_cases hu : t.any (unk σ) = true
    · rw [if_pos hu]
    · rw [if_neg hu] at h ⊢
      by_cases hx : exC (repl σ t) ≠ 0
      · rw [if_pos hx]
      · rw [if_neg hx] at h; exact absurd rfl h
theorem expD_zero {ds : List Dc} {t : G} (h : (expD nmB ds t).2 ≠ 0) : (expD nmB ds t).1 = zero := by
  unfold expD at h ⊢
  by_cases h0 : (knD nmB ds []).2 ≠ 0
  · rw [if_pos h0]
  · rw [if_neg h0] at h ⊢
    exact expT_zero h
theorem knD_vs {ds : List Dc} : ∀ {σ : Sco}, VS nmB σ → VS nmB (knD nmB ds σ).1 := by
  induction ds with
  | nil => intro σ h; exact h
  | cons d l ih =>
    intro σ h
    simp only [knD]
    by_cases h1 : d.kd ≠ 0
    · rw [if_pos h1]; exact ih h
    rw [if_neg h1]
    by_cases h2 : (!nmB d.nm) = true
    · rw [if_pos h2]; exact h
    rw [if_neg h2]
    by_cases h3 : (look σ d.nm).isSome = true
    · rw [if_pos h3]; exact h
    rw [if_neg h3]
    by_cases h4 : (expT nmB σ d.t).2 ≠ 0
    · rw [if_pos h4]; exact h
    rw [if_neg h4]
    refine ih fun p hp => ?_
    rcases List.mem_cons.1 hp with rfl | hp
    · exact expT_vd h (by simpa using h4)
    · exact h p hp
theorem expD_ok {ds : List Dc} {t : G} (h : (expD nmB ds t).2 = 0) : (knD nmB ds []).2 = 0 ∧ expD nmB ds t = expT nmB (knD nmB ds []).1 t := by
  unfold expD at h ⊢
  by_cases h0 : (knD nmB ds []).2 ≠ 0
  · rw [if_pos h0] at h; exact absurd h h0
  · exact ⟨by simpa using h0, by rw [if_neg h0]⟩
theorem expD_vd {ds : List Dc} {t : G} (h : (expD nmB ds t).2 = 0) : Vd nmB (expD nmB ds t).1 := by
  have h1 := expD_ok h
  rw [h1.2] at h ⊢
  exact expT_vd (knD_vs fun p hp => absurd hp (by simp)) h
theorem repl_plain (σ : Sco) (t : G) : t.any isName = false → repl σ t = t.bare := by
  induction t using G.ind with
  | h t ih =>
    intro h
    have h1 := any_self h
    unfold isName at h1
    have h2 : t.kd ≠ 4 := by simpa using h1
    rw [repl_eq, if_neg h2, bare_eq]
    congr 1
    exact List.map_congr_left fun k hk => ih k hk (any_kid h hk)
theorem unk_plain (σ : Sco) {t : G} (h : t.any isName = false) : t.any (unk σ) = false :=
  any_imp (fun x hx => by unfold unk; unfold isName at hx; rw [hx]; rfl) t h
theorem expT_self (σ : Sco) {x : G} (h : Vd nmB x) : expT nmB σ x = (x.bare, 0) := by
  have h0 : chk nmB x = 0 := chk_ok.2 ⟨by have := h.nodes; omega, h.dep, h.mal, h.mis, h.out⟩
  have hx : exC x = 0 := by
    have h1 := h.dep
    have h2 := h.cnt
    unfold exC
    rw [h.twn, if_neg (by simp), if_neg (by omega)]
  unfold expT
  rw [h0, if_neg (by simp), unk_plain σ h.nam, if_neg (by simp), repl_plain σ x h.nam, exC_bare, hx, if_neg (by simp)]
/-- what is expanded expands to itself -/
theorem expD_self {ds : List Dc} {t x : G} (h : (expD nmB ds t).2 = 0) (hx : x.bare = (expD nmB ds t).1) : expD nmB ds x = (x.bare, 0) := by
  have h1 := expD_ok h
  have h2 : Vd nmB x := Vd.of_bare (by rw [hx]; exact expD_vd h)
  unfold expD
  rw [if_neg (by rw [h1.1]; simp)]
  exact expT_self _ h2
theorem look_cons (n : ByteArray) (m : G) (σ : Sco) (k : ByteArray) : look ((n, m) :: σ) k = if n = k then some m else look σ k := by
  unfold look
  rw [List.find?_cons]
  by_cases h : n = k
  · rw [if_pos h, decide_eq_true h]; rfl
  · rw [if_neg h, decide_eq_false h]
theorem unk_name {σ : Sco} {n : ByteArray} (hn : look σ n = none) {x : G} (h4 : x.kd = 4) (hu : unk σ x = false) : x.nm ≠ n := by
  rintro rfl
  unfold unk at hu
  rw [hn, h4] at hu
  simp at hu
theorem repl_ext {σ : Sco} {n : ByteArray} (hn : look σ n = none) (m : G) (t : G) : t.any (unk σ) = false → repl ((n, m) :: σ) t = repl σ t := by
  induction t using G.ind with
  | h t ih =>
    intro h
    rw [repl_eq, repl_eq]
    by_cases h4 : t.kd = 4
    · rw [if_pos h4, if_pos h4, look_cons, if_neg (fun hh => unk_name hn h4 (any_self h) hh.symm)]
    · rw [if_neg h4, if_neg h4]
      congr 1
      exact List.map_congr_left fun k hk => ih k hk (any_kid h hk)
theorem unk_ext {σ : Sco} {n : ByteArray} (hn : look σ n = none) (m : G) {t : G} (h : t.any (unk σ) = false) : t.any (unk ((n, m) :: σ)) = false :=
  any_imp (fun x hx => by
    by_cases h4 : x.kd = 4
    · have h1 := unk_name hn h4 hx
      unfold unk at hx ⊢
      rw [look_cons, if_neg (fun hh => h1 hh.symm)]; exact hx
    · unfold unk
      have : (x.kd == 4) = false := by simpa using h4
      rw [this]; rfl) t h
theorem expT_ext {σ : Sco} {n : ByteArray} (hn : look σ n = none) (m : G) {t : G} (h : (expT nmB σ t).2 = 0) : expT nmB ((n, m) :: σ) t = expT nmB σ t := by
  unfold expT at h ⊢
  by_cases h0 : chk nmB t ≠ 0
  · rw [if_pos h0, if_pos h0]
  · rw [if_neg h0] at h
    rw [if_neg h0, if_neg h0]
    by_cases hu : t.any (unk σ) = true
    · rw [if_pos hu] at h; exact absurd h (by decide)
    · have hu2 : t.any (unk σ) = false := by simpa using hu
      rw [unk_ext hn m hu2, hu2, repl_ext hn m t hu2]
theorem knD_app (ds : List Dc) (d : Dc) : ∀ σ : Sco, knD nmB (ds ++ [d]) σ = if (knD nmB ds σ).2 ≠ 0 then knD nmB ds σ else knD nmB [d] (knD nmB ds σ).1 := by
  induction ds with
  | nil =>
    intro σ
    have e0 : knD nmB [] σ = (σ, 0) := by simp only [knD]
    rw [List.nil_append, e0, if_neg (by simp)]
  | cons a l ih =>
    intro σ
    rw [List.cons_append]
    have e : ∀ l' : List Dc, knD nmB (a :: l') σ = if a.kd ≠ 0 then knD nmB l' σ else if !nmB a.nm then (σ, 7) else if (look σ a.nm).isSome then (σ, 8) else if (expT nmB σ a.t).2 ≠ 0 then (σ, (expT nmB σ a.t).2) else knD nmB l' ((a.nm, (expT nmB σ a.t).1) :: σ) := fun l' => by simp only [knD]
    rw [e, e l]
    by_cases h1 : a.kd ≠ 0
    · rw [if_pos h1, if_pos h1]; exact ih σ
    rw [if_neg h1, if_neg h1]
    by_cases h2 : (!nmB a.nm) = true
    · rw [if_pos h2, if_pos h2]; rfl
    rw [if_neg h2, if_neg h2]
    by_cases h3 : (look σ a.nm).isSome = true
    · rw [if_pos h3, if_pos h3]; rfl
    rw [if_neg h3, if_neg h3]
    by_cases h4 : (expT nmB σ a.t).2 ≠ 0
    · rw [if_pos h4, if_pos h4, if_pos h4]
    rw [if_neg h4, if_neg h4]
    exact ih _
theorem knD_names {n : ByteArray} {ds : List Dc} (hd : ∀ d ∈ ds, d.nm ≠ n) : ∀ {σ : Sco}, look σ n = none → look (knD nmB ds σ).1 n = none := by
  induction ds with
  | nil => intro σ h; exact h
  | cons d l ih =>
    intro σ h
    have ih := @ih (fun x hx => hd x (by simp [hx]))
    simp only [knD]
    split
    · exact ih h
    · split
      · exact h
      · split
        · exact h
        · split
          · exact h
          · refine ih ?_
            rw [look_cons, if_neg (hd d (by simp))]; exact h
/-- one more declaration, of a new name -/
theorem expD_more {ds : List Dc} {d : Dc} {t : G} (hk : d.kd = 0) (hm : nmB d.nm = true) (hd : ∀ x ∈ ds, x.nm ≠ d.nm) (h : (expD nmB ds t).2 = 0) :
    ((expD nmB ds d.t).2 ≠ 0 → (expD nmB (ds ++ [d]) t).2 = (expD nmB ds d.t).2) ∧ ((expD nmB ds d.t).2 = 0 → expD nmB (ds ++ [d]) t = expD nmB ds t) := by
  have h1 := expD_ok h
  have hn : look (knD nmB ds []).1 d.nm = none := knD_names hd rfl
  have e1 : expD nmB ds d.t = expT nmB (knD nmB ds []).1 d.t := by unfold expD; rw [if_neg (by rw [h1.1]; simp)]
  have e2 : knD nmB (ds ++ [d]) [] = if (expT nmB (knD nmB ds []).1 d.t).2 ≠ 0 then ((knD nmB ds []).1, (expT nmB (knD nmB ds []).1 d.t).2) else ((d.nm, (expT nmB (knD nmB ds []).1 d.t).1) :: (knD nmB ds []).1, 0) := by
    rw [knD_app, if_neg (by rw [h1.1]; simp)]
    simp only [knD]
    rw [hk, if_neg (by simp), hm, if_neg (by simp), hn, if_neg (by simp)]
  rw [e1]
  constructor
  · intro hx
    rw [if_pos hx] at e2
    show (if (knD nmB (ds ++ [d]) []).2 ≠ 0 then (zero, (knD nmB (ds ++ [d]) []).2) else expT nmB (knD nmB (ds ++ [d]) []).1 t).2 = _
    rw [e2, if_pos hx]
  · intro hx
    rw [if_neg (by rw [hx]; simp)] at e2
    show (if (knD nmB (ds ++ [d]) []).2 ≠ 0 then (zero, (knD nmB (ds ++ [d]) []).2) else expT nmB (knD nmB (ds ++ [d]) []).1 t) = _
    rw [e2, if_neg (by simp), h1.2]
    exact expT_ext hn _ (by rw [← h1.2]; exact h)
end G
end Go.Proofs.YtlpnbcdnlbghdaaGreatDoor
