/- From a walk to a row: and what a law leaves; an argument that is a list of clauses. -/
import Derived.Test.YtdbboeknknlolaaRows
import Derived.Test.YtdbboeknknlolaaLawModels
import Derived.ChangeMaps5
import Derived.SliceStrings
import Derived.Deep.Slices
import Derived.Deep.Matrix
import Derived.ProofKit
import Derived.OpenShut
import Derived.Deep.DeepHandedRow
import Derived.Lib.SmallJoins
import Derived.Lib.LaidTab
import Derived.Stop.LaidErr
namespace Go.Proofs.Ytdbboeknknlolaa
open Go.ChangeShapes Go.WideShapes Go.ChangeAt Go.RowKit
set_option linter.unusedVariables false

theorem own : ownKnob Try.prog.godebug = none := by kernel_rfl
theorem laidOut : laidOutB Try.prog = true := by kernel_rfl
theorem cellsInt : Try.prog.cellsOf 3 = 1 := by kernel_rfl

section
variable {H : Type} {enc : TypeId × Value → H}

/-- arguments that were read are read again in a world in which nothing old has turned -/
theorem trodAll_below {W W' : World} (hb : Below W.heap.size W W') : ∀ {ts : List TypeId} {vs : List Value} {ds : List (DataW H)} {ps : List MemPlace},
    (∀ t ∈ ts, Try.prog.readableRec t = true ∧ t < Try.prog.types.size) → (∀ x ∈ ps, x.block < W.heap.size) → DataW.TrodAll enc Try.prog W 0 (fun _ => true) true ts vs ds ps →
    DataW.TrodAll enc Try.prog W' 0 (fun b => decide (b < W.heap.size)) true ts vs ds ps := by
  intro ts
  induction ts with
  | nil =>
    intro vs ds ps _ _ h
    obtain ⟨rfl, rfl, rfl⟩ := trodAll_nil h
    exact trodAll_mk0
  | cons t ts ih =>
    intro vs ds ps ht hp h
    obtain ⟨v, vs', d, ds', p, q, rfl, rfl, rfl, h1, h2⟩ := trodAll_cons h
    exact trodAll_cons_mk (Below.trod laidOut (ht t (by simp)).1 (ht t (by simp)).2 h1 hb (fun x hx => hp x (by simp [hx]))) (ih (fun t' h' => ht t' (by simp [h'])) (fun x hx => hp x (by simp [hx])) h2)

/-- what a law leaves: true; its arguments read as they did -/
theorem law_post {f : Func} {s : ChangeSpec} {W W' : World} {args : Array Value} {ds : List (DataW H)} {before : List MemPlace}
    (hv : s.vars = []) (hW : DataW.Whole enc Try.prog f.params.toList s.vars false W args.toList ds [] before) (hA : DataW.TrodAll enc Try.prog W 0 (fun _ => true) true f.params.toList args.toList ds before)
    (ht : ∀ t ∈ f.params.toList, Try.prog.readableRec t = true ∧ t < Try.prog.types.size) (hr : f.resultTypes = #[4])
    (hs1 : (s.fn H (ds ++ [])).results = [.lit (.bool true)]) (hs2 : (s.fn H (ds ++ [])).args = ds) (hs3 : (s.fn H (ds ++ [])).vars = []) (hb : Below W.heap.size W W') :
    s.post enc Try.prog f false true false false W args (.bool true) W' := by
  refine ⟨ds, [], before, [], before, [], hW, ?_, ?_, ?_, hb.frame _, fun h => by cases h⟩
  · rw [hs1, hr]
    exact trodAll_cons_mk (shut_bool Try.underlying4 true) trodAll_mk0
  · rw [hs2]
    exact trodAll_below hb ht (fun x hx => hW.lt x hx) hA
  · rw [hs3, hv]
    exact rfl

theorem wf_i64 {x : Int} (h : (Lit.int .i64 x).wf = true) : -9223372036854775808 ≤ x ∧ x ≤ 9223372036854775807 := by
  simpa [Lit.wf, IntKind.min, IntKind.max, IntKind.signed, IntKind.bits] using h
end
noncomputable def baseWorld (os : Os) : World := World.holding Try.prog os ⟨#[], #[], []⟩
section
variable {H : Type} {enc : TypeId × Value → H}
theorem cellsInts : Try.prog.cellsOf 34 = 1 := by kernel_rfl
theorem plain_at {W : World} {a : Addr} {v : Value} (h : W.cell? (a.add 0) = some v) : ∃ b off, a = ⟨b, off, none⟩ := by
  obtain ⟨b, off, spot⟩ := a
  have hspot : spot = none := by simpa [Addr.add] using World.cell?_spot h
  subst hspot
  exact ⟨b, off, rfl⟩
set_option maxRecDepth 100000 in
/-- an argument that is a list of clauses -/
theorem open_zss {W : World} {base : Nat} {v : Value} {d : DataW H} {p : List MemPlace} (hv : Value.okWide Try.prog W .any base 22 v) (h : DataW.Trod enc Try.prog W 0 (fun _ => true) true 22 v d p) :
    ∃ A cs c, v = .slice A (List.length cs) c ∧ LL W W.heap.size A cs := by
  obtain ⟨a0, len0, cap0, rfl⟩ := okWide_slice Try.underlying22 hv
  obtain ⟨fuel, hf⟩ := h
  rcases Go.Deep.open_int_rows Try.underlying22 Try.underlying34 Try.underlying3 cellsInts cellsInt hf with ⟨e1, _⟩ | ⟨a, len, cap, A, L, C, Z, e1, _, hl, hm, _, hr⟩
  · simp [Value.cells] at e1
    obtain ⟨rfl, rfl, rfl⟩ := e1
    exact ⟨none, [], 0, rfl, ⟨Row.nil _ _ _, fun x hx => absurd hx (by simp), by simp⟩⟩
  · simp [Value.cells] at e1
    obtain ⟨rfl, rfl, rfl⟩ := e1
    have hzl : ∀ r, r < cap0 → ((Z r).take (L r)).length = L r := fun r hr0 => by
      obtain ⟨_, h2, _, h4, _⟩ := hr r hr0
      rw [List.length_take]; omega
    have hcl : ((List.range len0).map fun r => (⟨A r, C r, (Z r).take (L r)⟩ : Cl)).length = len0 := by simp
    refine ⟨some a, (List.range len0).map fun r => ⟨A r, C r, (Z r).take (L r)⟩, cap0, by rw [hcl], ⟨⟨fun hp => ?_⟩, fun c hc => ?_, by rw [hcl]; unfold maxLen at hm; omega⟩⟩
    · rw [cvals_length, hcl] at hp
      obtain ⟨b, off, rfl⟩ := plain_at (hr 0 (by omega)).1
      refine ⟨b, off, rfl, by have := World.block_lt_of_cell? W _ (hr 0 (by omega)).1; rwa [Go.WideShapes.add_plain] at this, fun k u hu => ?_⟩
      have hk : k < len0 := by
        have := (List.getElem?_eq_some_iff.1 hu).1
        rwa [cvals_length, hcl] at this
      have h1 := (hr k (by omega)).1
      rw [Go.WideShapes.add_plain] at h1
      rw [h1, ← hu]
      unfold cvals
      rw [List.getElem?_map, List.getElem?_map, List.getElem?_range hk]
      simp [hzl k (by omega)]
    · obtain ⟨r, hr0, rfl⟩ := List.mem_map.1 hc
      have hrl : r < len0 := List.mem_range.1 hr0
      obtain ⟨h1, h2, h3, h4, h5, h6, h7⟩ := hr r (by omega)
      refine ⟨⟨fun hp => ?_⟩, fun x hx => ?_, ?_⟩
      · rw [zvals_length, hzl r (by omega)] at hp
        cases ha : A r with
        | none => have := h6 ha; omega
        | some a' =>
          have h8 := (h7 a' ha).2
          obtain ⟨b, off, rfl⟩ := plain_at (h8 0 (by omega))
          refine ⟨b, off, rfl, by have := World.block_lt_of_cell? W _ (h8 0 (by omega)); rwa [Go.WideShapes.add_plain] at this, fun k u hu => ?_⟩
          have hk : k < L r := by
            have := (List.getElem?_eq_some_iff.1 hu).1
            rwa [zvals_length, hzl r (by omega)] at this
          have h9 := h8 k (by omega)
          rw [Go.WideShapes.add_plain] at h9
          rw [h9, ← hu]
          unfold zvals
          rw [List.getElem?_map, List.getElem?_take_of_lt hk, List.getD_eq_getElem?_getD, List.getElem?_eq_getElem (by omega)]; rfl
      · exact wf_i64 (h5 x (List.mem_of_mem_take hx))
      · rw [hzl r (by omega)]; unfold maxLen at h3; omega
end
end Go.Proofs.Ytdbboeknknlolaa
