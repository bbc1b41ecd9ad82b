/- Plain: the component with a path, as the package finds it and as the reference does. Of no program. -/
import Derived.Test.YtlifnabeilnblaaGreatDoorSl
namespace Go.Proofs.YtlifnabeilnblaaGreatDoor
set_option linter.unusedVariables false

/-- a path's first name, and the path behind it -/
def nm1 (l : List UInt8) : List UInt8 := l.takeWhile (fun c => decide (c ≠ 46))
def rs1 (l : List UInt8) : List UInt8 := l.dropWhile (fun c => decide (c ≠ 46))
theorem nm_rs (l : List UInt8) : nm1 l ++ rs1 l = l := List.takeWhile_append_dropWhile
namespace G
/-- among components: the one of a name -/
def pkL (f : G → Int → Option (G × Int)) (nm : List UInt8) : List (ByteArray × G) → Int → Option (G × Int)
  | [], _ => none
  | c :: l, i => if bs c.1 = nm then f c.2 i else pkL f nm l (i + c.2.cnt)
/-- the package's search -/
def pk : Nat → G → List UInt8 → Int → Option (G × Int)
  | _, e, [], i => some (e, i)
  | 0, _, _ :: _, _ => none
  | n + 1, e, c :: r, i => if c = 46 then pkL (fun k j => pk n k (rs1 r) j) (nm1 r) (comps e) i else none
/-- the reference's search among components -/
def rfL (f : G → ByteArray → Int → Option (G × Int)) (at_ : ByteArray) : List (ByteArray × G) → Int → Option (G × Int)
  | [], _ => none
  | c :: l, i => match f c.2 (jn at_ c.1) i with | some r => some r | none => rfL f at_ l (i + c.2.cnt)
/-- the reference's search -/
def rf (path : ByteArray) : Nat → G → ByteArray → Int → Option (G × Int)
  | 0, e, at_, i => if at_ = path then some (e, i) else none
  | n + 1, e, at_, i => if at_ = path then some (e, i) else rfL (fun k a j => rf path n k a j) at_ (comps e) i
theorem bs_jn (a n : ByteArray) : bs (jn a n) = bs a ++ 46 :: bs n := by unfold jn; rw [bs_mk]; simp
/-- what is no beginning of the path leads nowhere -/
theorem rf_off {path : ByteArray} : ∀ (n : Nat) (e : G) (a : ByteArray) (i : Int), ¬ bs a <+: bs path → rf path n e a i = none := by
  intro n
  induction n with
  | zero =>
    intro e a i h
    rw [rf, if_neg (fun hh => h (by rw [hh]; exact List.prefix_refl _))]
  | succ n ih =>
    intro e a i h
    rw [rf, if_neg (fun hh => h (by rw [hh]; exact List.prefix_refl _))]
    have key : ∀ (l : List (ByteArray × G)) (i : Int), rfL (fun k a j => rf path n k a j) a l i = none := by
      intro l
      induction l with
      | nil => intro i; rfl
      | cons c l ihl =>
        intro i
        rw [rfL, ih c.2 (jn a c.1) i (fun hp => h (List.IsPrefix.trans ⟨46 :: bs c.1, (bs_jn a c.1).symm⟩ hp))]
        exact ihl _
    exact key _ i
/-- what the names of components must be -/
structure Nms (l : List (ByteArray × G)) : Prop where
  dot : ∀ c ∈ l, ∀ b ∈ bs c.1, b ≠ 46
  nodup : (l.map fun c => bs c.1).Nodup
/-- all components within have good names -/
inductive Good : G → Prop
  | mk (e : G) (h : Nms (comps e)) (hk : ∀ c ∈ comps e, Good c.2) : Good e
theorem Good.nms {e : G} (h : Good e) : Nms (comps e) := by cases h with | mk _ h _ => exact h
theorem Good.kid {e : G} (h : Good e) {c : ByteArray × G} (hc : c ∈ comps e) : Good c.2 := by cases h with | mk _ _ hk => exact hk c hc
theorem take_pre {n r : List UInt8} (hd : ∀ b ∈ n, b ≠ 46) (h : n <+: r) : ∃ t, r = n ++ t ∧ nm1 r = n ++ nm1 t ∧ rs1 r = rs1 t := by
  obtain ⟨t, rfl⟩ := h
  refine ⟨t, rfl, ?_, ?_⟩
  · unfold nm1
    induction n with
    | nil => rfl
    | cons b n ih =>
      rw [List.cons_append, List.takeWhile_cons_of_pos (by simpa using hd b (by simp)), ih fun x hx => hd x (by simp [hx])]; rfl
  · unfold rs1
    induction n with
    | nil => rfl
    | cons b n ih =>
      rw [List.cons_append, List.dropWhile_cons_of_pos (by simpa using hd b (by simp)), ih fun x hx => hd x (by simp [hx])]
theorem nm1_nil {t : List UInt8} (h : nm1 t = []) : rs1 t = t := by
  have := nm_rs t
  rw [h] at this
  simpa using this
theorem pk_nodot {n : Nat} {e : G} {s : List UInt8} {i : Int} (h : nm1 s ≠ []) : pk n e s i = none := by
  cases s with
  | nil => exact absurd rfl h
  | cons c r =>
    cases n with
    | zero => rw [pk]
    | succ n =>
      rw [pk, if_neg]
      rintro rfl
      exact h (by unfold nm1; rw [List.takeWhile_cons_of_neg (by decide)])
theorem comp_mem {e : G} {c : ByteArray × G} (hc : c ∈ comps e) : c.2 ∈ e.ks := by
  unfold comps at hc
  split at hc
  · unfold comps2 at hc
    cases hks : e.ks with
    | nil => rw [hks] at hc; cases hc
    | cons k l => rw [hks] at hc; obtain ⟨i, _, rfl⟩ := List.mem_map.1 hc; simp
  · split at hc
    · exact (List.of_mem_zip hc).2
    · cases hc
theorem dep_one (e : G) : 1 ≤ e.dep := by rw [G.dep_eq e]; omega
theorem comp_dep {e : G} {c : ByteArray × G} (hc : c ∈ comps e) : c.2.dep + 1 ≤ e.dep := by
  have := G.depL_mem (comp_mem hc)
  rw [G.dep_eq e]; omega
theorem jn_pre {a n path : ByteArray} {r : List UInt8} (h : bs path = bs a ++ 46 :: r) : bs (jn a n) <+: bs path ↔ bs n <+: r := by
  rw [h, bs_jn, List.prefix_append_right_inj]
  constructor
  · rintro ⟨t, ht⟩
    rw [List.cons_append] at ht
    injection ht with _ ht
    exact ⟨t, ht⟩
  · rintro ⟨t, rfl⟩; exact ⟨t, rfl⟩
theorem bs_jn_at {a n path : ByteArray} {r t : List UInt8} (h : bs path = bs a ++ 46 :: r) (ht : r = bs n ++ t) : bs path = bs (jn a n) ++ t := by
  rw [h, bs_jn, ht]; simp
/-- both searches find the same -/
theorem rf_pk {path : ByteArray} : ∀ (n : Nat) (e : G) (a : ByteArray) (s : List UInt8) (i : Int) (m : Nat), Good e → bs path = bs a ++ s → e.dep ≤ n + 1 → s.length ≤ m → rf path n e a i = pk m e s i := by
  intro n
  induction n with
  | zero =>
    intro e a s i m hg hp hd hm
    have hcs : comps e = [] := by
      cases hc : comps e with
      | nil => rfl
      | cons c l =>
        have h1 := comp_dep (e := e) (c := c) (by rw [hc]; simp)
        have := dep_one c.2
        omega
    cases s with
    | nil =>
      have : a = path := bs_inj (by rw [hp]; simp)
      rw [rf, if_pos this]
      cases m <;> rw [pk]
    | cons c r =>
      have : a ≠ path := by
        rintro rfl
        have := congrArg List.length hp
        simp at this
      rw [rf, if_neg this]
      cases m with
      | zero => rw [pk]
      | succ m =>
        rw [pk]
        by_cases h : c = 46
        · rw [if_pos h, hcs]; rfl
        · rw [if_neg h]
  | succ n ih =>
    intro e a s i m hg hp hd hm
    cases s with
    | nil =>
      have : a = path := bs_inj (by rw [hp]; simp)
      rw [rf, if_pos this]
      cases m <;> rw [pk]
    | cons c r =>
      have hne : a ≠ path := by
        rintro rfl
        have := congrArg List.length hp
        simp at this
      rw [rf, if_neg hne]
      cases m with
      | zero => simp at hm
      | succ m =>
        rw [pk]
        by_cases h : c = 46
        · subst h
          rw [if_pos rfl]
          have hr : r.length ≤ m := by simpa using hm
          have hrs : (rs1 r).length ≤ m := by
            have := congrArg List.length (nm_rs r)
            rw [List.length_append] at this
            omega
          -- what of the rest is not the name leads nowhere
          have off : ∀ (l : List (ByteArray × G)), (∀ c ∈ l, c ∈ comps e) → (∀ c ∈ l, bs c.1 ≠ nm1 r) → ∀ i, rfL (fun k a j => rf path n k a j) a l i = none := by
            intro l
            induction l with
            | nil => intro _ _ i; rfl
            | cons c l ihl =>
              intro hc hn i
              have h0 : rf path n c.2 (jn a c.1) i = none := by
                by_cases hpre : bs c.1 <+: r
                · obtain ⟨t, ht, h1, h2⟩ := take_pre (hg.nms.dot c (hc c (by simp))) hpre
                  rw [ih c.2 (jn a c.1) t i t.length (hg.kid (hc c (by simp))) (bs_jn_at hp ht) (by have := comp_dep (hc c (by simp)); omega) (Nat.le_refl _)]
                  refine pk_nodot fun hnil => hn c (by simp) ?_
                  rw [h1, hnil, List.append_nil]
                · exact rf_off n _ _ _ (fun hh => hpre ((jn_pre hp).1 hh))
              rw [rfL, h0]
              exact ihl (fun c hc' => hc c (by simp [hc'])) (fun c hc' => hn c (by simp [hc'])) _
          have key : ∀ (l : List (ByteArray × G)), (∀ c ∈ l, c ∈ comps e) → (l.map fun c => bs c.1).Nodup → ∀ i, rfL (fun k a j => rf path n k a j) a l i = pkL (fun k j => pk m k (rs1 r) j) (nm1 r) l i := by
            intro l
            induction l with
            | nil => intro _ _ i; rfl
            | cons c l ihl =>
              intro hc hnd i
              rw [List.map_cons, List.nodup_cons] at hnd
              have hrest := ihl (fun c hc' => hc c (by simp [hc'])) hnd.2
              rw [rfL, pkL]
              by_cases heq : bs c.1 = nm1 r
              · rw [if_pos heq]
                have hpre : bs c.1 <+: r := ⟨rs1 r, by rw [heq]; exact nm_rs r⟩
                obtain ⟨t, ht, h1, h2⟩ := take_pre (hg.nms.dot c (hc c (by simp))) hpre
                have ht0 : nm1 t = [] := by
                  rw [h1] at heq
                  have := congrArg List.length heq
                  rw [List.length_append] at this
                  exact List.eq_nil_of_length_eq_zero (by omega)
                have htr : rs1 r = t := by rw [h2, nm1_nil ht0]
                have hv : rf path n c.2 (jn a c.1) i = pk m c.2 (rs1 r) i := by
                  rw [htr]
                  exact ih c.2 (jn a c.1) t i m (hg.kid (hc c (by simp))) (bs_jn_at hp ht) (by have := comp_dep (hc c (by simp)); omega) (by rw [← htr]; exact hrs)
                rw [hv]
                cases hq : pk m c.2 (rs1 r) i with
                | some r => rfl
                | none =>
                  exact off l (fun c hc' => hc c (by simp [hc'])) (fun c' hc' he => hnd.1 (by
                    rw [heq, ← he]
                    exact List.mem_map.2 ⟨c', hc', rfl⟩)) _
              · rw [if_neg heq]
                have h0 : rf path n c.2 (jn a c.1) i = none := by
                  by_cases hpre : bs c.1 <+: r
                  · obtain ⟨t, ht, h1, h2⟩ := take_pre (hg.nms.dot c (hc c (by simp))) hpre
                    rw [ih c.2 (jn a c.1) t i t.length (hg.kid (hc c (by simp))) (bs_jn_at hp ht) (by have := comp_dep (hc c (by simp)); omega) (Nat.le_refl _)]
                    refine pk_nodot fun hnil => heq ?_
                    rw [h1, hnil, List.append_nil]
                  · exact rf_off n _ _ _ (fun hh => hpre ((jn_pre hp).1 hh))
                rw [h0]
                exact hrest _
          exact key _ (fun _ h => h) hg.nms.nodup i
        · rw [if_neg h]
          have key : ∀ (l : List (ByteArray × G)) (i : Int), rfL (fun k a j => rf path n k a j) a l i = none := by
            intro l
            induction l with
            | nil => intro i; rfl
            | cons c' l ihl =>
              intro i
              have h0 : rf path n c'.2 (jn a c'.1) i = none := by
                refine rf_off n _ _ _ fun hh => ?_
                rw [hp, bs_jn, List.prefix_append_right_inj] at hh
                obtain ⟨t, ht⟩ := hh
                rw [List.cons_append] at ht
                injection ht with h1 _
                exact h h1.symm
              rw [rfL, h0]
              exact ihl _
          exact key _ i
end G
end Go.Proofs.YtlifnabeilnblaaGreatDoor
