/- Walks: the laws' test of few parts. -/
import Derived.Test.YtlpnbcdnlbghdaaDoorRf
import Derived.Test.YtlpnbcdnlbghdaaDoorEq
import Derived.Test.YtlpnbcdnlbghdaaDoorFx
namespace Go.Proofs.YtlpnbcdnlbghdaaDoor
open Go.RowKit Go.Sort
set_option linter.unusedVariables false

namespace G
mutual
/-- what is left of a number -/
def lf : G → Int → Int | .mk _ _ _ _ _ _ _ ns _ _ ks, x => lfL ks (x - (1 + min (ns.length : Int) (x + 1)))
def lfL : List G → Int → Int | [], x => x | e :: l, x => if 0 ≤ x then lfL l (lf e x) else x
end
theorem lf_eq (e : G) (x : Int) : e.lf x = lfL e.ks (x - (1 + min (e.ns.length : Int) (x + 1))) := by cases e; simp [lf, ks, ns]
theorem lfL_neg {l : List G} {x : Int} (h : x < 0) : lfL l x = x := by
  cases l with
  | nil => simp [lfL]
  | cons e l => simp only [lfL]; rw [if_neg (by omega)]
theorem lfL_pos {a : G} {l : List G} {x : Int} (h : 0 ≤ x) : lfL (a :: l) x = lfL l (a.lf x) := by simp only [lfL]; rw [if_pos h]
theorem lfL_snoc (l : List G) (e : G) (x : Int) : lfL (l ++ [e]) x = if 0 ≤ lfL l x then e.lf (lfL l x) else lfL l x := by
  induction l generalizing x with
  | nil =>
    by_cases h : 0 ≤ x
    · rw [List.nil_append, lfL_pos h]; simp [lfL, h]
    · rw [List.nil_append, lfL_neg (by omega)]; simp [lfL, h]
  | cons a l ih =>
    rw [List.cons_append]
    by_cases h : 0 ≤ x
    · rw [lfL_pos h, lfL_pos h, ih]
    · rw [lfL_neg (by omega), lfL_neg (by omega), if_neg h]
theorem lfL_app (a b : List G) (x : Int) : lfL (a ++ b) x = lfL b (lfL a x) := by
  induction a generalizing x with
  | nil => simp [lfL]
  | cons c a ih =>
    rw [List.cons_append]
    by_cases h : 0 ≤ x
    · rw [lfL_pos h, lfL_pos h, ih]
    · have hx : x < 0 := by omega
      rw [lfL_neg hx, lfL_neg hx, lfL_neg hx]
theorem lfL_stop {l : List G} {i : Nat} {x : Int} (h : lfL (l.take i) x < 0) : lfL l x = lfL (l.take i) x := by
  conv => lhs; rw [← List.take_append_drop i l, lfL_app]
  exact lfL_neg h
theorem lf_bd (e : G) : ∀ x, 0 ≤ x → -2 ≤ e.lf x ∧ e.lf x ≤ x - 1 ∧ (0 ≤ e.lf x → (e.nodes : Int) + e.lf x ≤ x) := by
  induction e using G.ind with
  | h e ih =>
    have key : ∀ l : List G, (∀ k ∈ l, ∀ x, 0 ≤ x → -2 ≤ k.lf x ∧ k.lf x ≤ x - 1 ∧ (0 ≤ k.lf x → (k.nodes : Int) + k.lf x ≤ x)) → ∀ x, -2 ≤ x → -2 ≤ lfL l x ∧ lfL l x ≤ x ∧ (0 ≤ lfL l x → (nodesL l : Int) + lfL l x ≤ x) := by
      intro l
      induction l with
      | nil => intro _ x hx; simp [lfL, nodesL]; exact hx
      | cons a l ihl =>
        intro hh x hx
        by_cases h : 0 ≤ x
        · rw [lfL_pos h]
          have h1 := hh a (by simp) x h
          have h2 := ihl (fun k hk => hh k (by simp [hk])) (a.lf x) h1.1
          simp only [nodesL]
          refine ⟨h2.1, by omega, fun h3 => ?_⟩
          have h4 := h2.2.2 h3
          have h5 := h1.2.2 (by omega)
          omega
        · rw [lfL_neg (by omega)]
          exact ⟨hx, Int.le_refl _, fun h3 => absurd h3 h⟩
    intro x hx
    rw [lf_eq]
    have hq : 0 ≤ min (e.ns.length : Int) (x + 1) ∧ min (e.ns.length : Int) (x + 1) ≤ x + 1 := by omega
    generalize min (e.ns.length : Int) (x + 1) = q at hq
    have h1 := key e.ks ih (x - (1 + q)) (by omega)
    refine ⟨h1.1, by omega, fun h3 => ?_⟩
    have h4 := h1.2.2 h3
    rw [nodes_eq]
    omega
end G
/-- the contract of left -/
def LfE (e : G) : Prop := ∀ (x : Int) (w : World), G.In w w.heap.size e → 0 ≤ x → x ≤ 200 →
    Calls Tryd.prog 13 #[e.val, .int .i64 x] w fun r w' => r = .returned (.int .i64 (e.lf x)) ∧ Below w.heap.size w w'
theorem lmin2 (a b n : Int) (h : n = min a b) (ts : Array TypeId) (t : TypeId) (W : World) : (Builtin.min_ ts t #[.int .i64 a, .int .i64 b]).run Tryd.prog W = .ok (.int .i64 n) W := by
  have e : ∀ x y : Int, (if y < x then y else x) = min x y := fun x y => by split <;> omega
  simp [Builtin.min_, Builtin.min2, List.foldlM, e, go_sem, h]
set_option maxRecDepth 100000 in
set_option maxHeartbeats 1000000 in
theorem left_any (e : G) : LfE e := by
  induction e using G.ind with
  | h e ih =>
  intro x w hin h0 hx
  have IH := Lib.hid ih
  have hl := hin.l
  have hlen := hin.nd.len
  have hnlen := hin.nd.nlen
  obtain ⟨q, hq⟩ : ∃ q : Int, q = min ((e.ns.length : Nat) : Int) (x + 1) := ⟨_, rfl⟩
  have hqb : 0 ≤ q ∧ q ≤ x + 1 := by rw [hq]; omega
  have hmn := fun ts t W => lmin2 ((e.ns.length : Nat) : Int) (x + 1) q hq ts t W
  have HF : Hid (e.lf x = G.lfL e.ks (x - (1 + q))) := Lib.hid (by rw [G.lf_eq, hq])
  have X := Eb.start w e 26
  clear ih hq
  obtain ⟨A, hA⟩ : ∃ A, Hid (e.ad = A) := ⟨_, Lib.hid rfl⟩
  rw [hA.out] at hl
  obtain ⟨y, hy⟩ : ∃ y, Hid (x - (1 + q) = y) := ⟨_, Lib.hid rfl⟩
  have hyb : -2 ≤ y ∧ y ≤ 199 := by rw [← hy.out]; omega
  rw [hy.out] at HF
  have hw0 : IntKind.i64.wrap (x + 1) = x + 1 := IntWalk.i64_in _ (by omega)
  have hw1 : IntKind.i64.wrap (1 + q) = 1 + q := IntWalk.i64_in _ (by omega)
  have hw2 : IntKind.i64.wrap (x - (1 + q)) = y := by rw [hy.out]; exact IntWalk.i64_in _ (by omega)
  go_enter Tryd.func13, Tryd.ntmps13
  go_wp2_with fail
  go_loopw [1, 5] (fun lv iv wr => ∃ (i : Nat) (z : Int), i ≤ e.ks.length ∧ iv = .int .i64 i ∧ lv = .int .i64 z ∧ Hid (z = G.lfL (e.ks.take i) y) ∧ -2 ≤ z ∧ z ≤ 199 ∧ Eb w wr e) (fun _ iv _ => e.ks.length - (intOf iv).toNat)
  case atStart => exact ⟨0, y, Nat.zero_le _, rfl, rfl, Lib.hid (by simp [G.lfL]), by omega, by omega, X⟩
  case round =>
    clear hw0 hw1 hw2 hmn X
    obtain ⟨i, z, hi, rfl, rfl, hz, hz1, hz2, Y⟩ := hrel
    have c6 := Y.c6
    rw [hA.out] at c6
    by_cases hzn : 0 ≤ z
    · by_cases hlt : i < e.ks.length
      · obtain ⟨ab, off, k, rfl, hab, ⟨d0, d1, d2, d3, d4, d5, d6⟩, his, hkin⟩ := (hl.below Y.bel).at_ hlt
        have HI := Lib.hid (IH.out k his.mem)
        have hk2 := Y.kid hkin
        have HN : Hid (k.lf z = G.lfL (e.ks.take (i + 1)) y) := Lib.hid (by rw [his.take, G.lfL_snoc, ← hz.out, if_pos hzn])
        have hle := G.lf_bd k z hzn
        clear hkin
        go_wp2_with fail
        refine (HI.out z _ hk2 hzn (by omega)).mono ?_
        rintro r w2 ⟨rfl, b2⟩
        obtain ⟨v, hv⟩ : ∃ v, Hid (k.lf z = v) := ⟨_, Lib.hid rfl⟩
        rw [hv.out] at hle HN ⊢
        have hlo : -2 ≤ v ∧ v ≤ 199 := by omega
        clear hle
        have Y2 := Y.below b2
        go_wp2_with fail
        go_roundw
        case rel => exact ⟨i + 1, v, by omega, by go_num, rfl, HN, hlo.1, hlo.2, Y2⟩
        case measure => simp [intOf]; omega
      · obtain rfl : i = e.ks.length := by omega
        have HR : Hid (z = e.lf x) := Lib.hid (by rw [HF.out, hz.out, List.take_length])
        have b2 := Y.bel
        clear HF
        go_wp2_with fail
        go_ret
        exact ⟨ret_int HR.out, b2⟩
    · have HR : Hid (z = e.lf x) := Lib.hid (by rw [HF.out, hz.out]; exact (G.lfL_stop (by rw [← hz.out]; omega)).symm)
      have b2 := Y.bel
      clear HF
      by_cases hlt : i < e.ks.length
      all_goals
        go_wp2_with fail
        go_ret
        exact ⟨ret_int HR.out, b2⟩
/-- few nodes and names -/
def fewB (e : G) : Bool := decide (0 ≤ e.lf 200)
set_option maxRecDepth 100000 in
theorem few_any (e : G) (w : World) (hin : G.In w w.heap.size e) : Calls Tryd.prog 5 #[e.val] w fun r w' => r = .returned (.bool (fewB e)) ∧ Below w.heap.size w w' := by
  obtain ⟨z, hz⟩ : ∃ z, Hid (e.lf 200 = z) := ⟨_, Lib.hid rfl⟩
  have HR : Hid (decide (0 ≤ z) = fewB e) := Lib.hid (by unfold fewB; rw [hz.out])
  go_enter Tryd.func5, Tryd.ntmps5
  go_wp2_with fail
  refine (left_any e 200 _ (hin.at (al1 _ _)) (by decide) (by decide)).mono ?_
  rintro r w1 ⟨rfl, b1⟩
  rw [hz.out]
  go_wp2_with fail
  go_ret
  exact ⟨ret_bool HR.out, bTrans (al1 _ _) b1⟩
theorem few_nodes {e : G} (h : fewB e = true) : e.nodes ≤ 1000000 := by
  have h1 := of_decide_eq_true h
  have := (G.lf_bd e 200 (by decide)).2.2 h1
  omega
end Go.Proofs.YtlpnbcdnlbghdaaDoor
/- Walks: EqualType of the reference. -/
namespace Go.Proofs.YtlpnbcdnlbghdaaDoor
open Go.RowKit Go.Sort
set_option linter.unusedVariables false

end Go.Proofs.YtlpnbcdnlbghdaaDoor
