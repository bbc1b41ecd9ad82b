/- Plain: what Expand hands back is valid, and small. Of no program. -/
import Derived.Test.YtlifnabeilnblaaGreatDoorSr
import Derived.Test.YtlifnabeilnblaaGreatDoorCe
namespace Go.Proofs.YtlifnabeilnblaaGreatDoor
set_option linter.unusedVariables false
namespace G

theorem sum_le (l : List G) (f g : G → Nat) (h : ∀ k ∈ l, f k ≤ g k) : (l.map f).sum ≤ (l.map g).sum := by
  induction l with
  | nil => simp
  | cons a l ih =>
    simp only [List.map_cons, List.sum_cons]
    have := h a (by simp)
    have := ih fun k hk => h k (by simp [hk])
    omega
theorem nodesL_sum (l : List G) : nodesL l = (l.map nodes).sum := by
  induction l with
  | nil => rfl
  | cons a l ih => simp only [nodesL, List.map_cons, List.sum_cons, ih]
theorem cntL_ge {l : List G} (h : ∀ k ∈ l, 1 ≤ k.cnt) : (l.length : Int) ≤ cnt.cntL l := by
  induction l with
  | nil => simp [cnt.cntL]
  | cons a l ih =>
    have h1 := h a (by simp)
    have h2 := ih fun k hk => h k (by simp [hk])
    simp only [cnt.cntL, List.length_cons]; omega
theorem cntL_mem {l : List G} {k : G} (h : ∀ k ∈ l, 1 ≤ k.cnt) (hk : k ∈ l) : k.cnt ≤ cnt.cntL l := by
  induction l with
  | nil => cases hk
  | cons a l ih =>
    have h1 := h a (by simp)
    have h2 := cntL_ge fun k hk => h k (List.mem_cons_of_mem a hk)
    simp only [cnt.cntL]
    rcases List.mem_cons.1 hk with rfl | hk
    · omega
    · have := ih (fun k hk => h k (by simp [hk])) hk; omega
theorem nodesL_cnt {l : List G} {D : Nat} (h : ∀ k ∈ l, 1 ≤ k.cnt ∧ (k.nodes : Int) ≤ D * k.cnt) : (nodesL l : Int) ≤ D * cnt.cntL l := by
  induction l with
  | nil => simp [nodesL, cnt.cntL]
  | cons a l ih =>
    have h1 := (h a (by simp)).2
    have h2 := ih fun k hk => h k (by simp [hk])
    simp only [nodesL, cnt.cntL]
    rw [Int.mul_add]
    omega
/-- a tree whose nodes each have a scalar below them has at most as many nodes as its depth times its scalars -/
theorem nodes_cnt (e : G) : e.any mal = false → e.any out = false → e.any isName = false → e.cnt ≤ 32 → 1 ≤ e.cnt ∧ (e.nodes : Int) ≤ e.dep * e.cnt := by
  induction e using G.ind with
  | h e ih =>
    intro h1 h2 h3 h4
    have f := (mal_iff e).1 (any_self h1)
    have ho := any_self h2
    have hn := any_self h3
    unfold isName at hn
    have hk4 : e.kd ≠ 4 := by simpa using hn
    have hpos : ∀ k : G, k.any mal = false → k.any out = false → k.any isName = false → 1 ≤ k.cnt := by
      intro k
      induction k using G.ind with
      | h k ihk =>
        intro g1 g2 g3
        have fk := (mal_iff k).1 (any_self g1)
        have hok := any_self g2
        rw [cnt_eq']
        have key : 1 ≤ (if k.kd = 2 then k.sz * cnt.cntH k.ks else if k.kd = 3 then cnt.cntL k.ks else 1) := by
          by_cases q2 : k.kd = 2
          · rw [if_pos q2]
            have hl := fk.ar q2
            cases hks : k.ks with
            | nil => rw [hks] at hl; simp at hl
            | cons a l =>
              have ha := ihk a (by rw [hks]; simp) (any_kid g1 (by rw [hks]; simp)) (any_kid g2 (by rw [hks]; simp)) (any_kid g3 (by rw [hks]; simp))
              simp only [cnt.cntH]
              have hsz : 1 ≤ k.sz := by
                unfold out inr at hok
                rw [q2] at hok
                simp at hok
                exact hok.1
              have := Int.mul_le_mul hsz ha (by decide) (by omega)
              omega
          · rw [if_neg q2]
            by_cases q3 : k.kd = 3
            · rw [if_pos q3]
              have hl := (fk.rc q3).1
              have hge := cntL_ge (l := k.ks) fun a ha => ihk a ha (any_kid g1 ha) (any_kid g2 ha) (any_kid g3 ha)
              omega
            · rw [if_neg q3]; decide
        omega
    have hc1 := hpos e h1 h2 h3
    refine ⟨hc1, ?_⟩
    rw [nodes_eq, dep_eq]
    by_cases q2 : e.kd = 2
    · have hl := f.ar q2
      cases hks : e.ks with
      | nil => rw [hks] at hl; simp at hl
      | cons a l =>
        rw [hks] at hl
        have hl0 : l = [] := List.eq_nil_of_length_eq_zero (by simpa using hl)
        subst hl0
        have hm : a ∈ e.ks := by rw [hks]; simp
        have hsz : 1 ≤ e.sz := by
          unfold out inr at ho
          rw [q2] at ho
          simp at ho
          exact ho.1
        have ha1 := hpos a (any_kid h1 hm) (any_kid h2 hm) (any_kid h3 hm)
        have hce : e.cnt = min (e.sz * a.cnt) 33 := by rw [cnt_eq', if_pos q2, hks]; simp only [cnt.cntH]
        have hsa : e.cnt = e.sz * a.cnt := by omega
        have hge : a.cnt ≤ e.sz * a.cnt := by
          have := Int.mul_le_mul_of_nonneg_right hsz (by omega : (0 : Int) ≤ a.cnt)
          omega
        have iha := (ih a hm (any_kid h1 hm) (any_kid h2 hm) (any_kid h3 hm) (by omega)).2
        simp only [nodesL, depL]
        have hD : (a.dep : Int) * a.cnt ≤ a.dep * e.cnt := Int.mul_le_mul_of_nonneg_left (by omega) (by omega)
        have : (((max a.dep 0 + 1 : Nat) : Int)) * e.cnt = a.dep * e.cnt + e.cnt := by
          rw [show max a.dep 0 = a.dep by omega]
          push_cast
          rw [Int.add_mul, Int.one_mul]
        rw [this]
        push_cast
        omega
    · by_cases q3 : e.kd = 3
      · have hce : e.cnt = min (cnt.cntL e.ks) 33 := by rw [cnt_eq', if_neg q2, if_pos q3]
        have hsa : e.cnt = cnt.cntL e.ks := by omega
        have hp : ∀ k ∈ e.ks, 1 ≤ k.cnt := fun k hk => hpos k (any_kid h1 hk) (any_kid h2 hk) (any_kid h3 hk)
        have hkk : ∀ k ∈ e.ks, 1 ≤ k.cnt ∧ (k.nodes : Int) ≤ (depL e.ks : Nat) * k.cnt := fun k hk => by
          have hc := cntL_mem hp hk
          have h5 := (ih k hk (any_kid h1 hk) (any_kid h2 hk) (any_kid h3 hk) (by omega)).2
          have h6 := depL_mem hk
          have h7 := hp k hk
          have : (k.dep : Int) * k.cnt ≤ (depL e.ks : Nat) * k.cnt := Int.mul_le_mul_of_nonneg_right (by omega) (by omega)
          exact ⟨h7, by omega⟩
        have := nodesL_cnt hkk
        rw [← hsa] at this
        push_cast
        rw [Int.add_mul, Int.one_mul]
        omega
      · have h0 := f.ks q2 q3
        rw [List.eq_nil_of_length_eq_zero h0]
        simp only [nodesL, depL]
        have hce : e.cnt = 1 := by rw [cnt_eq', if_neg q2, if_neg q3]; rfl
        rw [hce]; decide
/-- a valid type without names -/
structure Vd (nmB : ByteArray → Bool) (e : G) : Prop where
  mal : e.any mal = false
  mis : e.any (mis nmB) = false
  out : e.any out = false
  nam : e.any isName = false
  twn : e.any twins = false
  dep : e.dep ≤ 12
  cnt : e.cnt ≤ 32
variable {nmB : ByteArray → Bool}
theorem Vd.nodes {e : G} (h : Vd nmB e) : e.nodes ≤ 384 := by
  have h1 := (nodes_cnt e h.mal h.out h.nam h.cnt).2
  have h2 := h.dep
  have h3 := h.cnt
  have h4 : (e.dep : Int) * e.cnt ≤ 12 * e.cnt := Int.mul_le_mul_of_nonneg_right (by omega) (by have := (nodes_cnt e h.mal h.out h.nam h.cnt).1; omega)
  omega
theorem Vd.bare {e : G} (h : Vd nmB e) : Vd nmB e.bare :=
  ⟨by rw [any_bare mal_bare]; exact h.mal, by rw [any_bare mis_bare]; exact h.mis, by rw [any_bare out_bare]; exact h.out, by rw [any_bare isName_bare]; exact h.nam, by rw [any_bare twins_bare]; exact h.twn, by rw [dep_bare]; exact h.dep, by rw [cnt_bare]; exact h.cnt⟩
theorem Vd.of_bare {e : G} (h : Vd nmB e.bare) : Vd nmB e :=
  ⟨by rw [← any_bare mal_bare]; exact h.mal, by rw [← any_bare mis_bare]; exact h.mis, by rw [← any_bare out_bare]; exact h.out, by rw [← any_bare isName_bare]; exact h.nam, by rw [← any_bare twins_bare]; exact h.twn, by rw [← dep_bare]; exact h.dep, by rw [← cnt_bare]; exact h.cnt⟩
theorem Vd.chkT {e : G} (h : Vd nmB e) : chkT nmB e = 0 := by
  have h0 : chk nmB e = 0 := chk_ok.2 ⟨by have := h.nodes; omega, h.dep, h.mal, h.mis, h.out⟩
  have h1 := h.dep
  have h2 := h.cnt
  unfold G.chkT exC
  rw [h0, h.nam, h.twn, if_neg (by simp), if_neg (by simp), if_neg (by simp), if_neg (by omega)]
theorem Vd.of_chkT {e : G} (h : G.chkT nmB e = 0) : Vd nmB e := by
  unfold G.chkT at h
  by_cases h0 : chk nmB e ≠ 0
  · rw [if_pos h0] at h; exact absurd h h0
  rw [if_neg h0] at h
  have ok := chk_ok.1 (by simpa using h0)
  cases hn : e.any isName with
  | true => rw [hn] at h; simp at h
  | false =>
    rw [hn, if_neg (by simp)] at h
    unfold exC at h
    cases ht : e.any twins with
    | true => rw [ht] at h; simp at h
    | false =>
      rw [ht, if_neg (by simp)] at h
      by_cases hd : 12 < e.dep ∨ 32 < e.cnt
      · rw [if_pos hd] at h; exact absurd h (by decide)
      · exact ⟨ok.mal, ok.mis, ok.out, hn, ht, ok.dep, by omega⟩
theorem no_bigN {e : G} (h1 : e.any G.mal = false) (h2 : e.any G.out = false) : e.any bigN = false := any_imp2 (fun e g1 g2 => by
  have f := (mal_iff e).1 g1
  unfold bigN
  rw [decide_eq_false_iff_not]
  by_cases h3 : e.kd = 3
  · have h4 := (f.rc h3).2
    unfold G.out inr at g2
    rw [h3] at g2
    simp at g2
    omega
  · have := f.ns h3; omega) e h1 h2
theorem Vd.sm {e : G} (h : Vd nmB e) : Sm e := ⟨by have := h.nodes; omega, no_bigN h.mal h.out⟩
theorem Ok.sm {e : G} (h : Ok nmB e) : Sm e := ⟨by have := h.nodes; omega, no_bigN h.mal h.out⟩
/-- all declared types are valid -/
def VS (nmB : ByteArray → Bool) (σ : Sco) : Prop := ∀ p ∈ σ, Vd nmB p.2
theorem rb_eqs (e : G) (f : G → G) : (e.rb f).kd = e.kd ∧ (e.rb f).lo = e.lo ∧ (e.rb f).hi = e.hi ∧ (e.rb f).sz = e.sz ∧ (e.rb f).nm = e.nm ∧ (e.rb f).ns = e.ns ∧ (e.rb f).ks = e.ks.map f := ⟨rfl, rfl, rfl, rfl, rfl, rfl, rfl⟩
theorem mal_rb (e : G) (f : G → G) : (e.rb f).mal = e.mal := by
  unfold mal form flds bnd
  show (!occ e.kd || !(sub _ (uses e.kd) && (decide (e.kd ≠ 2) || decide ((e.ks.map f).length = 1)) && (decide (e.kd ≠ 3) || (decide (1 ≤ (e.ks.map f).length) && decide ((e.ks.map f).length = e.ns.length))))) = _
  rw [List.length_map]
  show (!occ e.kd || !(sub ((if (e.lo != 0 || e.hi != 0) = true then 8 else 0) + (if e.sz ≠ 0 then 16 else 0) + (if e.nm.size ≠ 0 then 2 else 0) + (if e.ns.length ≠ 0 then 32 else 0) + (if (e.ks.map f).length ≠ 0 then 64 else 0)) (uses e.kd) && _ && _)) = _
  rw [List.length_map]
theorem out_rb (e : G) (f : G → G) : (e.rb f).out = e.out := by
  unfold out inr
  show (!((decide (e.kd ≠ 1) || ival e.lo e.hi) && (decide (e.kd ≠ 2) || (decide (1 ≤ e.sz) && decide (e.sz ≤ 32))) && (decide (e.kd ≠ 3) || decide ((e.ks.map f).length ≤ 32)))) = _
  rw [List.length_map]
theorem repl_any {p : G → Bool} (hp : ∀ (e : G) (f : G → G), p (e.rb f) = p e) (hb : ∀ e, p e.bare = p e) {σ : Sco} (hσ : ∀ q ∈ σ, q.2.any p = false) (t : G) : t.any (fun x => x.kd != 4 && p x) = false → t.any (unk σ) = false → (repl σ t).any p = false := by
  induction t using G.ind with
  | h t ih =>
    intro h1 h2
    by_cases h4 : t.kd = 4
    · rw [repl_eq, if_pos h4]
      have hu := any_self h2
      unfold unk at hu
      rw [h4] at hu
      cases hl : look σ t.nm with
      | none => rw [hl] at hu; simp at hu
      | some x => exact (any_bare hb x).trans (hσ _ (look_mem hl))
    · rw [← rb_repl h4]
      refine any_mk ?_ fun k hk => ?_
      · rw [hp]
        have := any_self h1
        have q4 : (t.kd != 4) = true := by simpa using h4
        rw [q4] at this
        simpa using this
      · obtain ⟨k', hk', rfl⟩ := List.mem_map.1 (show k ∈ t.ks.map (repl σ) from hk)
        exact ih k' hk' (any_kid h1 hk') (any_kid h2 hk')
theorem any_sub {p q : G → Bool} (e : G) (h : e.any p = false) : e.any (fun x => q x && p x) = false := any_imp (fun x hx => by rw [hx, Bool.and_false]) e h
theorem repl_nodes {σ : Sco} {N : Nat} (hN : 1 ≤ N) (hσ : ∀ q ∈ σ, q.2.nodes ≤ N) (t : G) : t.any (unk σ) = false → (repl σ t).nodes ≤ t.nodes * N := by
  induction t using G.ind with
  | h t ih =>
    intro h2
    by_cases h4 : t.kd = 4
    · rw [repl_eq, if_pos h4]
      have hu := any_self h2
      unfold unk at hu
      rw [h4] at hu
      cases hl : look σ t.nm with
      | none => rw [hl] at hu; simp at hu
      | some x =>
        show x.bare.nodes ≤ _
        rw [nodes_bare]
        have := hσ _ (look_mem hl)
        exact Nat.le_trans this (Nat.le_mul_of_pos_left N (nodes_pos t))
    · rw [← rb_repl h4, nodes_eq]
      show nodesL (t.ks.map (repl σ)) + 1 ≤ _
      rw [nodes_eq t, Nat.add_mul, Nat.one_mul]
      have : nodesL (t.ks.map (repl σ)) ≤ nodesL t.ks * N := by
        have key : ∀ l : List G, (∀ k ∈ l, (repl σ k).nodes ≤ k.nodes * N) → nodesL (l.map (repl σ)) ≤ nodesL l * N := by
          intro l
          induction l with
          | nil => intro _; simp [nodesL]
          | cons a l ihl =>
            intro hh
            simp only [List.map_cons, nodesL, Nat.add_mul]
            have := hh a (by simp)
            have := ihl fun k hk => hh k (by simp [hk])
            omega
        exact key t.ks fun k hk => ih k hk (any_kid h2 hk)
      omega
theorem repl_sm {σ : Sco} (hσ : VS nmB σ) {t : G} (ok : Ok nmB t) (hu : t.any (unk σ) = false) : (repl σ t).any mal = false ∧ (repl σ t).any out = false ∧ (repl σ t).nodes ≤ 1000000 :=
  ⟨repl_any mal_rb mal_bare (fun q hq => (hσ q hq).mal) t (any_sub t ok.mal) hu, repl_any out_rb out_bare (fun q hq => (hσ q hq).out) t (any_sub t ok.out) hu, by
    have h1 := repl_nodes (N := 384) (by decide) (fun q hq => (hσ q hq).nodes) t hu
    have h2 := ok.nodes
    have : t.nodes * 384 ≤ 1024 * 384 := Nat.mul_le_mul_right _ h2
    omega⟩
/-- what expand hands back without a fault is valid -/
theorem expT_vd {σ : Sco} (hσ : VS nmB σ) {t : G} (h : (expT nmB σ t).2 = 0) : Vd nmB (expT nmB σ t).1 := by
  unfold expT at h ⊢
  by_cases h0 : chk nmB t ≠ 0
  · rw [if_pos h0] at h; exact absurd h h0
  rw [if_neg h0] at h ⊢
  have ok := chk_ok.1 (by simpa using h0)
  cases hu : t.any (unk σ) with
  | true => rw [hu] at h; simp at h
  | false =>
    rw [hu, if_neg (by simp)] at h
    rw [if_neg (by simp)]
    by_cases hx : exC (repl σ t) ≠ 0
    · rw [if_pos hx] at h; exact absurd h hx
    rw [if_neg hx]
    show Vd nmB (repl σ t)
    have hx0 : exC (repl σ t) = 0 := by simpa using hx
    unfold exC at hx0
    cases htw : (repl σ t).any twins with
    | true => rw [htw] at hx0; simp at hx0
    | false =>
      rw [htw, if_neg (by simp)] at hx0
      by_cases hd : 12 < (repl σ t).dep ∨ 32 < (repl σ t).cnt
      · rw [if_pos hd] at hx0; exact absurd hx0 (by decide)
      · have hs := repl_sm hσ ok hu
        exact ⟨hs.1, repl_any (fun e f => rfl) mis_bare (fun q hq => (hσ q hq).mis) t (any_sub t ok.mis) hu, hs.2.1,
          repl_any (fun e f => rfl) isName_bare (fun q hq => (hσ q hq).nam) t (any_imp (p := fun _ => false) (fun x _ => by
            unfold isName
            by_cases h4 : x.kd = 4
            · rw [h4]; rfl
            · have : (x.kd == 4) = false := by simpa using h4
              rw [this, Bool.and_false]) t (by
            clear hs hd htw hx0 hx hu ok h0 h
            induction t using G.ind with
            | h t ih => exact any_mk rfl fun k hk => ih k hk)) hu, htw, by omega, by omega⟩
theorem repl_bare (σ : Sco) (t : G) : (repl σ t).bare = repl σ t := by
  induction t using G.ind with
  | h t ih =>
    by_cases h4 : t.kd = 4
    · rw [repl_eq, if_pos h4, bare_bare]
    · rw [← rb_repl h4, bare_eq]
      show G.mk t.kd t.lo t.hi t.sz t.nm none 0 t.ns none 0 ((t.ks.map (repl σ)).map bare) = _
      rw [List.map_map, show t.ks.map (bare ∘ repl σ) = t.ks.map (repl σ) from List.map_congr_left fun k hk => ih k hk]; rfl
theorem expT_bare (σ : Sco) (t : G) : (expT nmB σ t).1.bare = (expT nmB σ t).1 := by
  unfold expT
  have hz : zero.bare = zero := by rw [bare_eq]; rfl
  split
  · exact hz
  · split
    · exact hz
    · split
      · exact hz
      · exact repl_bare σ t
end G
end Go.Proofs.YtlifnabeilnblaaGreatDoor
