/- An argument that is a formula. -/
import Derived.Test.YtdbboeknknlolaaLawRow
import Derived.ChangeSame
namespace Go.Proofs.Ytdbboeknknlolaa
open Go.ChangeShapes Go.WideShapes Go.ChangeAt Go.RowKit
set_option linter.unusedVariables false
section
variable {H : Type} {enc : TypeId × Value → H}
set_option maxRecDepth 100000 in
/-- the cells of a list of clauses -/
theorem zss_of_cells {W : World} {v : Value} {fuel : Nat} {x : DataW H × List MemPlace} (hf : DataW.trod enc Try.prog W 0 (fun _ => true) true fuel 22 [v] = some x) :
    ∃ A cs c, v = .slice A (List.length cs) c ∧ LL W W.heap.size A cs := by
  rcases Go.Deep.open_int_rows Try.underlying22 Try.underlying34 Try.underlying3 cellsInts cellsInt hf with ⟨e1, _⟩ | ⟨a, len0, cap0, A, L, C, Z, e1, _, hl, hm, _, hr⟩
  · obtain rfl : v = .slice none 0 0 := by simpa using e1
    exact ⟨none, [], 0, rfl, ⟨Row.nil _ _ _, fun x hx => absurd hx (by simp), by simp⟩⟩
  · obtain rfl : v = .slice (some a) len0 cap0 := by simpa using e1
    have hzl : ∀ r, r < cap0 → ((Z r).take (L r)).length = L r := fun r hr0 => by
      obtain ⟨_, h2, _, h4, _⟩ := hr r hr0
      rw [List.length_take]; omega
    have hcl : ((List.range len0).map fun r => (⟨A r, C r, (Z r).take (L r)⟩ : Cl)).length = len0 := by simp
    refine ⟨some a, (List.range len0).map fun r => ⟨A r, C r, (Z r).take (L r)⟩, cap0, by rw [hcl], ⟨⟨fun hp => ?_⟩, fun c hc => ?_, by rw [hcl]; unfold maxLen at hm; omega⟩⟩
    · rw [cvals_length, hcl] at hp
      obtain ⟨b, off, rfl⟩ := plain_at (hr 0 (by omega)).1
      refine ⟨b, off, rfl, by have := World.block_lt_of_cell? W _ (hr 0 (by omega)).1; rwa [Go.WideShapes.add_plain] at this, fun k u hu => ?_⟩
      have hk : k < len0 := by
        have := (List.getElem?_eq_some_iff.1 hu).1
        rwa [cvals_length, hcl] at this
      have h1 := (hr k (by omega)).1
      rw [Go.WideShapes.add_plain] at h1
      rw [h1, ← hu]
      unfold cvals
      rw [List.getElem?_map, List.getElem?_map, List.getElem?_range hk]
      simp [hzl k (by omega)]
    · obtain ⟨r, hr0, rfl⟩ := List.mem_map.1 hc
      have hrl : r < len0 := List.mem_range.1 hr0
      obtain ⟨h1, h2, h3, h4, h5, h6, h7⟩ := hr r (by omega)
      refine ⟨⟨fun hp => ?_⟩, fun x hx => ?_, ?_⟩
      · rw [zvals_length, hzl r (by omega)] at hp
        cases ha : A r with
        | none => have := h6 ha; omega
        | some a' =>
          have h8 := (h7 a' ha).2
          obtain ⟨b, off, rfl⟩ := plain_at (h8 0 (by omega))
          refine ⟨b, off, rfl, by have := World.block_lt_of_cell? W _ (h8 0 (by omega)); rwa [Go.WideShapes.add_plain] at this, fun k u hu => ?_⟩
          have hk : k < L r := by
            have := (List.getElem?_eq_some_iff.1 hu).1
            rwa [zvals_length, hzl r (by omega)] at this
          have h9 := h8 k (by omega)
          rw [Go.WideShapes.add_plain] at h9
          rw [h9, ← hu]
          unfold zvals
          rw [List.getElem?_map, List.getElem?_take_of_lt hk, List.getD_eq_getElem?_getD, List.getElem?_eq_getElem (by omega)]; rfl
      · exact wf_i64 (h5 x (List.mem_of_mem_take hx))
      · rw [hzl r (by omega)]; unfold maxLen at h3; omega
theorem cellsCnf : Try.prog.cellsOf 24 = 3 := by kernel_rfl
theorem cellsLists : Try.prog.cellsOf 22 = 1 := by kernel_rfl
set_option maxRecDepth 100000 in
/-- an argument that is a formula -/
theorem open_cnf {W : World} {base : Nat} {v : Value} {d : DataW H} {p : List MemPlace} (hv : Value.okWide Try.prog W .any base 24 v) (h : DataW.Trod enc Try.prog W 0 (fun _ => true) true 24 v d p) :
    ∃ (a k : Int) (A : Option Addr) (cs : List Cl) (c : Nat), v = .agg #[.int .i64 a, .int .i64 k, .slice A cs.length c] ∧ LL W W.heap.size A cs := by
  obtain ⟨cs, rfl, hsz⟩ := okWide_struct Try.underlying24 hv
  rw [cellsCnf] at hsz
  obtain ⟨v0, v1, v2, rfl⟩ : ∃ v0 v1 v2, cs = #[v0, v1, v2] := by
    match cs, hsz with
    | ⟨[v0, v1, v2]⟩, _ => exact ⟨v0, v1, v2, rfl⟩
  obtain ⟨fuel, hf⟩ := h
  obtain ⟨xs, n, _, _, _, hxl, hg⟩ := DataW.trod_struct Try.underlying24 hf
  have g0 := hg 0 _ rfl
  have g1 := hg 1 _ rfl
  have g2 := hg 2 _ rfl
  simp at hxl
  rw [List.getElem?_eq_getElem (by omega)] at g0 g1 g2
  simp [cellsInt, cellsLists, Value.cells] at g0 g1 g2
  obtain ⟨x0, hx0, _, _⟩ := DataW.trod_int Try.underlying3 g0
  obtain ⟨x1, hx1, _, _⟩ := DataW.trod_int Try.underlying3 g1
  simp at hx0 hx1
  subst hx0 hx1
  obtain ⟨A, cs, c, rfl, hl⟩ := zss_of_cells g2
  exact ⟨x0, x1, A, cs, c, rfl, hl⟩
end
end Go.Proofs.Ytdbboeknknlolaa
