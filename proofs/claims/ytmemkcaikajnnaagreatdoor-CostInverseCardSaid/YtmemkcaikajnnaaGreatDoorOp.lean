/- From a row to a walk: arguments that are expressions, cost models. -/
import Derived.Test.YtmemkcaikajnnaaGreatDoorCo
import Derived.ProofKit
import Derived.OpenShut
import Derived.Deep.Fields
import Derived.Deep.Slices
namespace Go.Proofs.YtmemkcaikajnnaaGreatDoor
open Go.ChangeShapes Go.WideShapes Go.ChangeAt Go.RowKit
set_option linter.unusedVariables false

theorem cellsExpr : Tryz.prog.cellsOf 44 = 4 := by kernel_rfl
theorem cellsCosts : Tryz.prog.cellsOf 23 = 13 := by kernel_rfl
instance : Inhabited E := ⟨.mk 0 0 ⟨#[]⟩ none 0 []⟩
theorem wfI {n : Int} (h : (Lit.int .i64 n).wf = true) : inI n := by simpa [inI, Lit.wf, IntKind.min, IntKind.max, IntKind.signed, IntKind.bits] using h
theorem maxLen_eq : maxLen = 9223372036854775807 := by decide
theorem list4 {α : Type} {l : List α} (h : l.length = 4) : ∃ a b c d, l = [a, b, c, d] := by
  match l, h with
  | [a, b, c, d], _ => exact ⟨a, b, c, d, rfl⟩

section
variable {H : Type} {enc : TypeId × Value → H} {W : World}
set_option maxRecDepth 100000 in
/-- what a list of expressions reads as, where their elements read as trees -/
theorem open_list (fuel : Nat) (ih : ∀ m, m < fuel → ∀ {cs : List Value} {x : DataW H × List MemPlace}, DataW.trod enc Tryz.prog W 0 (fun _ => true) true m 44 cs = some x → ∃ e : E, cs = e.cells ∧ E.In W W.heap.size e)
    {cs : List Value} {x : DataW H × List MemPlace} (h : DataW.trod enc Tryz.prog W 0 (fun _ => true) true fuel 42 cs = some x) : ∃ (A : Option Addr) (l : List E) (c : Nat), cs = [.slice A l.length c] ∧ E.L W W.heap.size A l := by
  rcases DataW.trod_slice Tryz.underlying42 h with ⟨rfl, -⟩ | ⟨a, len, cap, elems, rest, m, rfl, rfl, -, -, hlc, hcm, hel, hi, -, -⟩
  · exact ⟨none, [], 0, rfl, by simp, Row.nil _ _ _, fun e he => by cases he⟩
  rw [cellsExpr] at hi
  have each : ∀ i, i < len → ∃ e : E, (∀ j, j < 4 → W.cell? ((a.add (i * 4)).add j) = e.cells[j]?) ∧ E.In W W.heap.size e := by
    intro i hlt
    have h1 := hi i hlt
    rw [List.getElem?_eq_getElem (by omega)] at h1
    obtain ⟨ci, h2, h3⟩ := Option.bind_eq_some_iff.1 h1
    obtain ⟨e, rfl, hin⟩ := ih m (Nat.lt_succ_self m) h3
    exact ⟨e, (World.cells?_some h2).2.2, hin⟩
  obtain ⟨q, hq⟩ := Go.Deep.choose_lt each
  have hll : ((List.range len).map q).length = len := by simp
  have hget : ∀ i, (hi : i < ((List.range len).map q).length) → ((List.range len).map q)[i] = q i := fun i hi => by simp
  rw [maxLen_eq] at hcm
  refine ⟨some a, (List.range len).map q, cap, by rw [hll], ?_⟩
  refine ⟨by rw [hll]; omega, ⟨fun hp => ?_⟩, fun e he => ?_⟩
  · have hp' : 0 < len := by rw [E.flat_len, hll] at hp; omega
    obtain ⟨b, off, spot⟩ := a
    have h0 := (hq 0 hp').1 0 (by omega)
    have hs : spot = none := by
      have := World.cell?_spot (h0.trans (show (E.cells (q 0))[0]? = some (.int .i64 (q 0).op) from rfl))
      simpa [Addr.add] using this
    subst hs
    refine ⟨b, off, rfl, ?_, fun k u hu => ?_⟩
    · have := World.block_lt_of_cell? W _ (h0.trans (show (E.cells (q 0))[0]? = some (.int .i64 (q 0).op) from rfl))
      simpa [Addr.add] using this
    · have hk : k < len * 4 := by
        have := (List.getElem?_eq_some_iff.1 hu).1
        rw [E.flat_len, hll] at this; exact this
      obtain ⟨i, j, hij, hi, hj⟩ : ∃ i j, k = i * 4 + j ∧ i < len ∧ j < 4 := ⟨k / 4, k % 4, by omega, by omega, by omega⟩
      subst hij
      have h1 := flatAt E.cells 4 (fun _ => rfl) ((List.range len).map q) (k := i) (j := j) (by rw [hll]; exact hi) hj
      rw [hget] at h1
      have h2 := (hq i hi).1 j hj
      have h3 : (E.flat ((List.range len).map q))[i * 4 + j]? = some u := hu
      unfold E.flat at h3
      rw [h1] at h3
      rw [h3, add_plain, add_plain] at h2
      rw [← Nat.add_assoc]
      exact h2
  · obtain ⟨i, hi, rfl⟩ := List.mem_map.1 he
    exact (hq i (by have := List.mem_range.1 hi; omega)).2
set_option maxRecDepth 100000 in
/-- an expression that reads is a tree in memory -/
theorem open_tree : ∀ (fuel : Nat) {cs : List Value} {x : DataW H × List MemPlace}, DataW.trod enc Tryz.prog W 0 (fun _ => true) true fuel 44 cs = some x → ∃ e : E, cs = e.cells ∧ E.In W W.heap.size e := by
  intro fuel
  induction fuel using Nat.strongRecOn with
  | ind fuel ih =>
  intro cs x h
  obtain ⟨xs, n, rfl, -, hl, hxl, hf⟩ := DataW.trod_struct Tryz.underlying44 h
  rw [cellsExpr] at hl
  obtain ⟨v0, v1, v2, v3, rfl⟩ := list4 hl
  obtain ⟨y0, y1, y2, y3, rfl⟩ := list4 (show xs.length = 4 from hxl)
  have g0 : DataW.trod enc Tryz.prog W 0 (fun _ => true) true n 41 [v0] = some y0 := hf 0 _ rfl
  have g1 : DataW.trod enc Tryz.prog W 0 (fun _ => true) true n 3 [v1] = some y1 := hf 1 _ rfl
  have g2 : DataW.trod enc Tryz.prog W 0 (fun _ => true) true n 9 [v2] = some y2 := hf 2 _ rfl
  have g3 : DataW.trod enc Tryz.prog W 0 (fun _ => true) true n 42 [v3] = some y3 := hf 3 _ rfl
  clear hf
  obtain ⟨o, e0, -, w0⟩ := DataW.trod_int Tryz.underlying41 g0
  obtain ⟨i, e1, -, w1⟩ := DataW.trod_int Tryz.underlying3 g1
  obtain ⟨s, e2, -, w2⟩ := DataW.trod_string Tryz.underlying9 g2
  obtain ⟨A, l, c, e3, hL⟩ := open_list n (fun m hm => ih m (by omega)) g3
  simp only [List.cons.injEq, and_true] at e0 e1 e2 e3
  subst e0 e1 e2 e3
  rw [maxLen_eq] at w2
  exact ⟨.mk o i s A c l, rfl, (E.in_eq _).2 ⟨⟨wfI w0, wfI w1, w2, hL.len, hL.row⟩, E.inL_iff.2 hL.all⟩⟩
set_option maxRecDepth 100000 in
/-- an argument that is an expression -/
theorem open_expr {base : Nat} {v : Value} {d : DataW H} {p : List MemPlace} (hv : Value.okWide Tryz.prog W .any base 44 v) (h : DataW.Trod enc Tryz.prog W 0 (fun _ => true) true 44 v d p) : ∃ e : E, v = e.val ∧ E.In W W.heap.size e := by
  obtain ⟨cs, rfl, hsz⟩ := okWide_struct Tryz.underlying44 hv
  obtain ⟨fuel, hf⟩ := h
  obtain ⟨e, he, hin⟩ := open_tree fuel hf
  refine ⟨e, ?_, hin⟩
  have : cs.toList = e.cells := he
  have h2 : cs = e.cells.toArray := by rw [← this]
  rw [h2]; rfl
set_option maxRecDepth 100000 in
/-- an argument that is a list of expressions -/
theorem open_exprs {base : Nat} {v : Value} {d : DataW H} {p : List MemPlace} (hv : Value.okWide Tryz.prog W .any base 42 v) (h : DataW.Trod enc Tryz.prog W 0 (fun _ => true) true 42 v d p) :
    ∃ (A : Option Addr) (l : List E) (c : Nat), v = .slice A l.length c ∧ E.L W W.heap.size A l := by
  obtain ⟨A0, l0, c0, rfl⟩ := okWide_slice Tryz.underlying42 hv
  obtain ⟨fuel, hf⟩ := h
  obtain ⟨A, l, c, he, hL⟩ := open_list fuel (fun m _ => open_tree m) hf
  have he' : [Value.slice A0 l0 c0] = [.slice A l.length c] := he
  simp only [List.cons.injEq, and_true] at he'
  exact ⟨A, l, c, he', hL⟩
set_option maxRecDepth 100000 in
theorem int_at {n i : Nat} {cs : List Value} {y : Option (DataW H × List MemPlace)} (hy : y.isSome = true) (h : DataW.trod enc Tryz.prog W 0 (fun _ => true) true n 3 ((cs.drop i).take 1) = y) : ∃ z, cs[i]? = some (.int .i64 z) ∧ inI z := by
  obtain ⟨x, rfl⟩ := Option.isSome_iff_exists.1 hy
  obtain ⟨z, e, -, w⟩ := DataW.trod_int Tryz.underlying3 h
  refine ⟨z, ?_, wfI w⟩
  have := congrArg (·[0]?) e
  simpa [List.getElem?_take, List.getElem?_drop] using this
set_option maxRecDepth 100000 in
/-- a cost model that reads -/
theorem open_c {fuel : Nat} {cs : List Value} {x : DataW H × List MemPlace} (h : DataW.trod enc Tryz.prog W 0 (fun _ => true) true fuel 23 cs = some x) : ∃ c : C, cs = c.box.toList ∧ c.Wf := by
  obtain ⟨xs, n, rfl, -, hl, hxl, hf⟩ := DataW.trod_struct Tryz.underlying23 h
  rw [cellsCosts] at hl
  have hx : xs.length = 13 := hxl
  have hy : ∀ i, i < 13 → (xs[i]?).isSome = true := fun i hi => by rw [List.getElem?_eq_getElem (by omega)]; rfl
  obtain ⟨z0, e0, w0⟩ := int_at (hy 0 (by omega)) (hf 0 _ rfl)
  obtain ⟨z1, e1, w1⟩ := int_at (hy 1 (by omega)) (hf 1 _ rfl)
  obtain ⟨z2, e2, w2⟩ := int_at (hy 2 (by omega)) (hf 2 _ rfl)
  obtain ⟨z3, e3, w3⟩ := int_at (hy 3 (by omega)) (hf 3 _ rfl)
  obtain ⟨z4, e4, w4⟩ := int_at (hy 4 (by omega)) (hf 4 _ rfl)
  obtain ⟨z5, e5, w5⟩ := int_at (hy 5 (by omega)) (hf 5 _ rfl)
  obtain ⟨z6, e6, w6⟩ := int_at (hy 6 (by omega)) (hf 6 _ rfl)
  obtain ⟨z7, e7, w7⟩ := int_at (hy 7 (by omega)) (hf 7 _ rfl)
  obtain ⟨z8, e8, w8⟩ := int_at (hy 8 (by omega)) (hf 8 _ rfl)
  obtain ⟨z9, e9, w9⟩ := int_at (hy 9 (by omega)) (hf 9 _ rfl)
  obtain ⟨z10, e10, w10⟩ := int_at (hy 10 (by omega)) (hf 10 _ rfl)
  obtain ⟨z11, e11, w11⟩ := int_at (hy 11 (by omega)) (hf 11 _ rfl)
  obtain ⟨z12, e12, w12⟩ := int_at (hy 12 (by omega)) (hf 12 _ rfl)
  refine ⟨⟨z0, z1, z2, z3, z4, z5, z6, z7, z8, z9, z10, z11, z12⟩, ?_, ?_⟩
  · apply List.ext_getElem?
    intro i
    by_cases hi : i < 13
    · match i, hi with
      | 0, _ => exact e0
      | 1, _ => exact e1
      | 2, _ => exact e2
      | 3, _ => exact e3
      | 4, _ => exact e4
      | 5, _ => exact e5
      | 6, _ => exact e6
      | 7, _ => exact e7
      | 8, _ => exact e8
      | 9, _ => exact e9
      | 10, _ => exact e10
      | 11, _ => exact e11
      | 12, _ => exact e12
    · rw [List.getElem?_eq_none (by omega), List.getElem?_eq_none (by show 13 ≤ i; omega)]
  · intro x hx
    simp only [C.list, List.mem_cons, List.not_mem_nil, or_false] at hx
    rcases hx with rfl | rfl | rfl | rfl | rfl | rfl | rfl | rfl | rfl | rfl | rfl | rfl | rfl <;> assumption
set_option maxRecDepth 100000 in
/-- an argument that is a cost model -/
theorem open_costs {base : Nat} {v : Value} {d : DataW H} {p : List MemPlace} (hv : Value.okWide Tryz.prog W .any base 23 v) (h : DataW.Trod enc Tryz.prog W 0 (fun _ => true) true 23 v d p) : ∃ c : C, v = c.val ∧ c.Wf := by
  obtain ⟨cs, rfl, hsz⟩ := okWide_struct Tryz.underlying23 hv
  obtain ⟨fuel, hf⟩ := h
  obtain ⟨c, he, hw⟩ := open_c hf
  refine ⟨c, ?_, hw⟩
  have : cs.toList = c.box.toList := he
  have h2 : cs = c.box := by rw [← Array.toArray_toList (xs := cs), this]
  rw [h2]
end
end Go.Proofs.YtmemkcaikajnnaaGreatDoor
