/- Plain: the components on the way to a scalar, and what the search finds at their paths. Of no program. -/
import Derived.Test.YtlifnabeilnblaaGreatDoorFt
namespace Go.Proofs.YtlifnabeilnblaaGreatDoor
open Go.RowKit Go.Sort
set_option linter.unusedVariables false

/-- a path without its last name -/
def cutL : List UInt8 → List UInt8 | [] => [] | b :: l => if (46 : UInt8) ∈ l then b :: cutL l else []
theorem cutL_none {a : List UInt8} (h : ∀ b ∈ a, b ≠ 46) : cutL (46 :: a) = [] := by
  rw [cutL, if_neg]
  intro hm
  exact h _ hm rfl
theorem cutL_app (a t : List UInt8) : cutL (46 :: (a ++ 46 :: t)) = 46 :: (a ++ cutL (46 :: t)) := by
  have key : ∀ a : List UInt8, cutL (a ++ 46 :: t) = a ++ cutL (46 :: t) := by
    intro a
    induction a with
    | nil => rfl
    | cons x a ih => rw [List.cons_append, cutL, if_pos (by simp), ih]; rfl
  exact key (46 :: a)
theorem cutL_head (t : List UInt8) : cutL (46 :: t) = [] ∨ ∃ r, cutL (46 :: t) = 46 :: r := by
  unfold cutL
  split
  · exact .inr ⟨_, rfl⟩
  · exact .inl rfl
theorem nm_app {a t : List UInt8} (ha : ∀ b ∈ a, b ≠ 46) (ht : t = [] ∨ ∃ r, t = 46 :: r) : nm1 (a ++ t) = a ∧ rs1 (a ++ t) = t := by
  obtain ⟨t', h1, h2, h3⟩ := G.take_pre (n := a) (r := a ++ t) ha (List.prefix_append _ _)
  obtain rfl : t = t' := List.append_cancel_left h1
  have h0 : nm1 t = [] := by
    rcases ht with rfl | ⟨r, rfl⟩
    · rfl
    · unfold nm1; rw [List.takeWhile_cons_of_neg (by decide)]
  exact ⟨by rw [h2, h0, List.append_nil], by rw [h3, G.nm1_nil h0]⟩
namespace G
theorem cnt_comp {e : G} (h1 : e.any mal = false) (h2 : e.any out = false) (h3 : e.any isName = false) (h4 : e.cnt ≤ 32) {k : G} (hk : k ∈ e.ks) : k.cnt ≤ e.cnt := by
  have f := (mal_iff e).1 (any_self h1)
  have ho := any_self h2
  have hge1 : ∀ k ∈ e.ks, 1 ≤ k.cnt := fun k hk => by
    by_cases hc : k.cnt ≤ 32
    · exact (nodes_cnt k (any_kid h1 hk) (any_kid h2 hk) (any_kid h3 hk) hc).1
    · omega
  by_cases q2 : e.kd = 2
  · have hl := f.ar q2
    unfold out inr at ho
    rw [q2] at ho
    simp at ho
    cases hks : e.ks with
    | nil => rw [hks] at hl; simp at hl
    | cons x l =>
      rw [hks] at hl hk
      have hl0 : l = [] := List.eq_nil_of_length_eq_zero (by simpa using hl)
      subst hl0
      obtain rfl : k = x := by simpa using hk
      have hce : e.cnt = min (e.sz * k.cnt) 33 := by rw [cnt_eq', if_pos q2, hks]; simp only [cnt.cntH]
      have hx1 := hge1 k (by rw [hks]; simp)
      have := Int.mul_le_mul_of_nonneg_right ho.1 (by omega : (0 : Int) ≤ k.cnt)
      omega
  · by_cases q3 : e.kd = 3
    · have hce : e.cnt = min (cnt.cntL e.ks) 33 := by rw [cnt_eq', if_neg q2, if_pos q3]
      have key : ∀ (l : List G), (∀ k ∈ l, 1 ≤ k.cnt) → ∀ k ∈ l, k.cnt ≤ cnt.cntL l := by
        intro l
        induction l with
        | nil => intro _ k hk; cases hk
        | cons x l ih =>
          intro hp k hk
          have h5 := cntL_ge (l := l) fun k hk => hp k (by simp [hk])
          have h6 := hp x (by simp)
          simp only [cnt.cntL]
          rcases List.mem_cons.1 hk with rfl | hk
          · omega
          · have := ih (fun k hk => hp k (by simp [hk])) k hk; omega
      have := key e.ks hge1 k hk
      omega
    · have := f.ks q2 q3
      rw [List.eq_nil_of_length_eq_zero this] at hk
      cases hk
theorem Vd.kid_ {e k : G} (h : Vd nmB e) (hk : k ∈ e.ks) : Vd nmB k :=
  ⟨any_kid h.mal hk, any_kid h.mis hk, any_kid h.out hk, any_kid h.nam hk, any_kid h.twn hk, by have h1 := h.dep; have h2 := depL_mem hk; rw [dep_eq e] at h1; omega, by have := cnt_comp h.mal h.out h.nam h.cnt hk; have := h.cnt; omega⟩
theorem comb (g : ByteArray × G → List Sl) : ∀ (l : List (ByteArray × G)), (l.map fun c => bs c.1).Nodup → (∀ c ∈ l, ((g c).length : Int) = c.2.cnt) → ∀ (j : Nat) (s : Sl), (l.flatMap g)[j]? = some s →
    ∃ c ∈ l, ∃ o b : Nat, j = b + o ∧ (g c)[o]? = some s ∧ (∀ (f : G → Int → Option (G × Int)) (i0 : Int), pkL f (bs c.1) l i0 = f c.2 (i0 + b)) ∧ ∀ (o' : Nat) (s' : Sl), (g c)[o']? = some s' → (l.flatMap g)[b + o']? = some s' := by
  intro l
  induction l with
  | nil => intro _ _ j s h; simp at h
  | cons c l ih =>
    intro hnd hg j s h
    rw [List.map_cons, List.nodup_cons] at hnd
    rw [List.flatMap_cons] at h
    by_cases hj : j < (g c).length
    · rw [List.getElem?_append_left hj] at h
      refine ⟨c, by simp, j, 0, by omega, h, fun f i0 => by rw [pkL, if_pos rfl]; congr 1; omega, fun o' s' h' => ?_⟩
      obtain ⟨ho, _⟩ := List.getElem?_eq_some_iff.1 h'
      rw [List.flatMap_cons, Nat.zero_add, List.getElem?_append_left ho, h']
    · rw [List.getElem?_append_right (by omega)] at h
      obtain ⟨c', hc', o, b, hjo, hs, hf, hr⟩ := ih hnd.2 (fun c hc => hg c (by simp [hc])) _ s h
      refine ⟨c', by simp [hc'], o, (g c).length + b, by omega, hs, fun f i0 => ?_, fun o' s' h' => ?_⟩
      · rw [pkL, if_neg (fun he => hnd.1 (by rw [he]; exact List.mem_map.2 ⟨c', hc', rfl⟩)), hf f, ← hg c (by simp)]
        congr 1
        omega
      · rw [List.flatMap_cons, List.getElem?_append_right (by omega), show (g c).length + b + o' - (g c).length = b + o' by omega]
        exact hr o' s' h'
/-- what the search finds at the path of a scalar, and at the path of what it is in -/
theorem parts (e : G) : Vd nmB e → Good e → ∀ (p : ByteArray) (j : Nat) (s : Sl), (scal e p)[j]? = some s →
    ∃ t : List UInt8, bs s.path = bs p ++ t ∧ (t = [] ∨ ∃ r, t = 46 :: r) ∧
      (∀ (m : Nat) (i0 : Int), t.length ≤ m → ∃ k, pk m e t i0 = some (k, i0 + j) ∧ (k.kd = 0 ∨ k.kd = 1) ∧ leafS k s.path = s) ∧
      (∃ (x : G) (n : Nat), (∀ (m : Nat) (i0 : Int), (cutL t).length ≤ m → pk m e (cutL t) i0 = some (x, i0 + n)) ∧ Vd nmB x ∧ ∀ q : ByteArray, bs q = bs p ++ cutL t → ∀ (i : Nat) (s' : Sl), (scal x q)[i]? = some s' → (scal e p)[n + i]? = some s') := by
  induction e using G.ind with
  | h e ih =>
    intro hV hG p j s hs
    have f := (mal_iff e).1 (any_self hV.mal)
    have hn := any_self hV.nam
    unfold isName at hn
    have hk4 : e.kd ≠ 4 := by simpa using hn
    have h0 := f.k0
    have h5 := f.k5
    have pk0 : ∀ (m : Nat) (i0 : Int), pk m e [] i0 = some (e, i0) := fun m i0 => by cases m <;> rw [pk]
    by_cases hk : e.kd = 0 ∨ e.kd = 1
    · have hs0 : scal e p = [leafS e p] := scal_leaf e p hk
      rw [hs0] at hs
      cases j with
      | succ j => simp at hs
      | zero =>
        obtain rfl : leafS e p = s := by simpa using hs
        have hp : (leafS e p).path = p := by unfold leafS; split <;> rfl
        refine ⟨[], by rw [hp, List.append_nil], .inl rfl, fun m i0 _ => ⟨e, by rw [pk0]; simp, hk, by rw [hp]⟩, e, 0, fun m i0 _ => by rw [show cutL [] = [] from rfl, pk0]; simp, hV, fun q hq i s' h' => ?_⟩
        rw [show cutL [] = [] from rfl, List.append_nil] at hq
        rw [← bs_inj hq, Nat.zero_add]; exact h'
    · have hsc : scal e p = (comps e).flatMap fun c => scal c.2 (jn p c.1) := scal_comps e p (by omega) (by omega)
      have hs2 := hs
      rw [hsc] at hs2
      obtain ⟨c, hc, o, b, rfl, ho, hf, hr⟩ := comb (fun c => scal c.2 (jn p c.1)) (comps e) hG.nms.nodup (fun c hc => by
        have v := hV.kid_ (comp_mem hc)
        exact scal_len c.2 v.mal v.out v.nam v.cnt _) j s hs2
      obtain ⟨t', ht, hh, h1, x, n, h2, hVx, h3⟩ := ih c.2 (comp_mem hc) (hV.kid_ (comp_mem hc)) (hG.kid hc) (jn p c.1) o s ho
      have hdot := hG.nms.dot c hc
      have step : ∀ (m : Nat) (i0 : Int) (u : List UInt8), (u = [] ∨ ∃ r, u = 46 :: r) → pk (m + 1) e (46 :: (bs c.1 ++ u)) i0 = pk m c.2 u (i0 + b) := fun m i0 u hu => by
        obtain ⟨e1, e2⟩ := nm_app hdot hu
        rw [pk, if_pos rfl, e1, e2, hf]
      refine ⟨46 :: (bs c.1 ++ t'), by rw [ht, bs_jn]; simp, .inr ⟨_, rfl⟩, fun m i0 hm => ?_, ?_⟩
      · cases m with
        | zero => simp at hm
        | succ m =>
          obtain ⟨k, hk1, hk2, hk3⟩ := h1 m (i0 + b) (by simp at hm; omega)
          refine ⟨k, ?_, hk2, hk3⟩
          rw [step m i0 t' hh, hk1]
          push_cast
          rw [Int.add_assoc]
      · rcases hh with rfl | ⟨r, rfl⟩
        · have hcl : cutL (46 :: (bs c.1 ++ [])) = [] := by rw [List.append_nil]; exact cutL_none hdot
          rw [hcl]
          refine ⟨e, 0, fun m i0 _ => by rw [pk0]; simp, hV, fun q hq i s' h' => ?_⟩
          rw [List.append_nil] at hq
          rw [← bs_inj hq, Nat.zero_add]; exact h'
        · rw [cutL_app]
          refine ⟨x, b + n, fun m i0 hm => ?_, hVx, fun q hq i s' h' => ?_⟩
          · cases m with
            | zero => simp at hm
            | succ m =>
              rw [step m i0 _ (cutL_head r), h2 m (i0 + b) (by simp at hm; omega)]
              push_cast
              rw [Int.add_assoc]
          · rw [hsc, Nat.add_assoc]
            exact hr _ s' (h3 q (by rw [hq, bs_jn]; simp) i s' h')
/-- a path in front of the paths of scalars -/
def pre (q : ByteArray) (s : Sl) : Sl := ⟨q ++ s.path, s.bool, s.lo, s.hi⟩
theorem bs_app (a b : ByteArray) : bs (a ++ b) = bs a ++ bs b := by
  show (a ++ b).data.toList = _
  rw [ByteArray.data_append]; simp [bs]
theorem scal_pre (e : G) : e.any mal = false → e.any isName = false → ∀ q p : ByteArray, scal e (q ++ p) = (scal e p).map (pre q) := by
  induction e using G.ind with
  | h e ih =>
    intro h1 h2 q p
    have f := (mal_iff e).1 (any_self h1)
    have hn := any_self h2
    unfold isName at hn
    have hk4 : e.kd ≠ 4 := by simpa using hn
    have h0 := f.k0
    have h5 := f.k5
    by_cases hk : e.kd = 0 ∨ e.kd = 1
    · rw [scal_leaf e _ hk, scal_leaf e _ hk]
      by_cases hz : e.kd = 0
      · rw [if_pos hz, if_pos hz]; rfl
      · rw [if_neg hz, if_neg hz]; rfl
    · rw [scal_comps e _ (by omega) (by omega), scal_comps e _ (by omega) (by omega), List.map_flatMap]
      have key : ∀ l : List (ByteArray × G), (∀ c ∈ l, c ∈ comps e) → (l.flatMap fun c => scal c.2 (jn (q ++ p) c.1)) = l.flatMap fun c => (scal c.2 (jn p c.1)).map (pre q) := by
        intro l
        induction l with
        | nil => intro _; rfl
        | cons c l ihl =>
          intro hc
          have hm := comp_mem (hc c (by simp))
          rw [List.flatMap_cons, List.flatMap_cons, ihl fun c hc' => hc c (by simp [hc'])]
          congr 1
          rw [← ih c.2 hm (any_kid h1 hm) (any_kid h2 hm)]
          congr 1
          apply bs_inj
          rw [bs_app, bs_jn, bs_jn, bs_app, List.append_assoc]
      exact key _ fun _ h => h
end G
end Go.Proofs.YtlifnabeilnblaaGreatDoor
