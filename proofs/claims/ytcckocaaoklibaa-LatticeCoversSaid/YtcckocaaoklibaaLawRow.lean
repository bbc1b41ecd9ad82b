/- From a walk to a row: and what a law leaves. -/
import Derived.Test.YtcckocaaoklibaaRows
import Derived.Test.YtcckocaaoklibaaN8
import Derived.ChangeMaps5
import Derived.SliceStrings
import Derived.Deep.Slices
import Derived.ProofKit
import Derived.OpenShut
import Derived.Deep.DeepHandedRow
import Derived.Lib.SmallJoins
import Derived.Lib.LaidTab
import Derived.Stop.LaidErr
namespace Go.Proofs.Ytcckocaaoklibaa
open Go.ChangeShapes Go.WideShapes Go.ChangeAt Go.RowKit
set_option linter.unusedVariables false

theorem own : ownKnob Try.prog.godebug = none := by kernel_rfl
theorem laidOut : laidOutB Try.prog = true := by kernel_rfl
theorem cellsInt : Try.prog.cellsOf 3 = 1 := by kernel_rfl

section
variable {H : Type} {enc : TypeId × Value → H}

/-- arguments that were read are read again in a world in which nothing old has turned -/
theorem trodAll_below {W W' : World} (hb : Below W.heap.size W W') : ∀ {ts : List TypeId} {vs : List Value} {ds : List (DataW H)} {ps : List MemPlace},
    (∀ t ∈ ts, Try.prog.readableRec t = true ∧ t < Try.prog.types.size) → (∀ x ∈ ps, x.block < W.heap.size) → DataW.TrodAll enc Try.prog W 0 (fun _ => true) true ts vs ds ps →
    DataW.TrodAll enc Try.prog W' 0 (fun b => decide (b < W.heap.size)) true ts vs ds ps := by
  intro ts
  induction ts with
  | nil =>
    intro vs ds ps _ _ h
    obtain ⟨rfl, rfl, rfl⟩ := trodAll_nil h
    exact trodAll_mk0
  | cons t ts ih =>
    intro vs ds ps ht hp h
    obtain ⟨v, vs', d, ds', p, q, rfl, rfl, rfl, h1, h2⟩ := trodAll_cons h
    exact trodAll_cons_mk (Below.trod laidOut (ht t (by simp)).1 (ht t (by simp)).2 h1 hb (fun x hx => hp x (by simp [hx]))) (ih (fun t' h' => ht t' (by simp [h'])) (fun x hx => hp x (by simp [hx])) h2)

/-- what a law leaves: true; its arguments read as they did -/
theorem law_post {f : Func} {s : ChangeSpec} {W W' : World} {args : Array Value} {ds : List (DataW H)} {before : List MemPlace}
    (hv : s.vars = []) (hW : DataW.Whole enc Try.prog f.params.toList s.vars false W args.toList ds [] before) (hA : DataW.TrodAll enc Try.prog W 0 (fun _ => true) true f.params.toList args.toList ds before)
    (ht : ∀ t ∈ f.params.toList, Try.prog.readableRec t = true ∧ t < Try.prog.types.size) (hr : f.resultTypes = #[4])
    (hs1 : (s.fn H (ds ++ [])).results = [.lit (.bool true)]) (hs2 : (s.fn H (ds ++ [])).args = ds) (hs3 : (s.fn H (ds ++ [])).vars = []) (hb : Below W.heap.size W W') :
    s.post enc Try.prog f false true false false W args (.bool true) W' := by
  refine ⟨ds, [], before, [], before, [], hW, ?_, ?_, ?_, hb.frame _, fun h => by cases h⟩
  · rw [hs1, hr]
    exact trodAll_cons_mk (shut_bool Try.underlying4 true) trodAll_mk0
  · rw [hs2]
    exact trodAll_below hb ht (fun x hx => hW.lt x hx) hA
  · rw [hs3, hv]
    exact rfl

theorem cells2 : Try.prog.cellsOf 33 = 2 := by kernel_rfl
theorem cellsStr : Try.prog.cellsOf 9 = 1 := by kernel_rfl
theorem wf_i64 {x : Int} (h : (Lit.int .i64 x).wf = true) : -9223372036854775808 ≤ x ∧ x ≤ 9223372036854775807 := by
  simpa [Lit.wf, IntKind.min, IntKind.max, IntKind.signed, IntKind.bits] using h

set_option maxRecDepth 100000 in
/-- an argument that is a list of texts -/
theorem open_ss {W : World} {base : Nat} {v : Value} {d : DataW H} {p : List MemPlace} (hv : Value.okWide Try.prog W .any base 22 v) (h : DataW.Trod enc Try.prog W 0 (fun _ => true) true 22 v d p) :
    ∃ A ns c, v = .slice A ns.length c ∧ Strs W W.heap.size A ns := by
  obtain ⟨a0, len0, cap0, rfl⟩ := okWide_slice Try.underlying22 hv
  obtain ⟨fuel, hf⟩ := h
  rcases open_strings Try.underlying22 Try.underlying9 cellsStr hf with ⟨e1, _⟩ | ⟨ad, len, cap, ss, e1, _, hl, _, hz, _, hc, _⟩
  · simp [Value.cells] at e1
    obtain ⟨rfl, rfl, rfl⟩ := e1
    exact ⟨none, [], 0, rfl, ⟨Row.nil _ _ _⟩⟩
  · simp [Value.cells] at e1
    obtain ⟨rfl, rfl, rfl⟩ := e1
    have hzl : ss.length = cap0 := by simpa using hz
    refine ⟨some ad, ss.take len0, cap0, by rw [List.length_take, Nat.min_eq_left (by omega)], ⟨⟨fun hp => ?_⟩⟩⟩
    have hp' : 0 < len0 := by
      rw [List.length_map, List.length_take] at hp; omega
    obtain ⟨b, off, spot⟩ := ad
    have hspot : spot = none := by simpa [Addr.add] using World.cell?_spot (hc 0 (by omega))
    subst hspot
    refine ⟨b, off, rfl, World.block_lt_of_cell? W _ (hc 0 (by omega)), fun k u hu => ?_⟩
    have hk : k < len0 := by
      have := (List.getElem?_eq_some_iff.1 hu).1
      rw [List.length_map, List.length_take] at this; omega
    rw [List.getElem?_map, List.getElem?_take_of_lt hk, List.getElem?_eq_getElem (by omega)] at hu
    simp only [Option.map_some, Option.some.injEq] at hu
    subst hu
    rw [← Go.WideShapes.add_plain, hc k (by omega), List.getD_eq_getElem?_getD, List.getElem?_eq_getElem (by omega)]; rfl

set_option maxRecDepth 100000 in
/-- an argument that is a list of pairs of numbers -/
theorem open_ps {W : World} {base : Nat} {v : Value} {d : DataW H} {p : List MemPlace} (hv : Value.okWide Try.prog W .any base 23 v) (h : DataW.Trod enc Try.prog W 0 (fun _ => true) true 23 v d p) :
    ∃ A ps c, v = .slice A ps.length c ∧ Prs W W.heap.size A ps := by
  obtain ⟨a0, len0, cap0, rfl⟩ := okWide_slice Try.underlying23 hv
  obtain ⟨fuel, hf⟩ := h
  rcases Go.Deep.open_slice Try.underlying23 hf with ⟨e1, _⟩ | ⟨ad, len, cap, m, n, D, Pl, e1, _, hl, _, hm, _, hx⟩
  · simp [Value.cells] at e1
    obtain ⟨rfl, rfl, rfl⟩ := e1
    exact ⟨none, [], 0, rfl, ⟨Row.nil _ _ _⟩⟩
  · simp [Value.cells] at e1
    obtain ⟨rfl, rfl, rfl⟩ := e1
    have hmc : m = cap0 := by simpa using hm
    obtain ⟨q, hq⟩ := Go.Deep.choose_lt (α := Int × Int) (n := len0) (p := fun i z => W.cell? (ad.add (i * 2)) = some (.int .i64 z.1) ∧ W.cell? (ad.add (i * 2 + 1)) = some (.int .i64 z.2)) (fun i hi => by
      obtain ⟨cs', h1, h2⟩ := hx i (by omega)
      rw [cells2] at h1
      obtain ⟨_, hlen, hcell⟩ := World.cells?_some h1
      obtain ⟨xs, k, _, _, _, hxl, hg⟩ := DataW.trod_array Try.underlying33 h2
      match cs', hlen with
      | [v0, v1], _ =>
        have g0 := hg 0 (by omega)
        have g1 := hg 1 (by omega)
        rw [List.getElem?_eq_getElem (by omega)] at g0 g1
        simp [cellsInt] at g0 g1
        obtain ⟨x, hx0, _⟩ := DataW.trod_int Try.underlying3 g0
        obtain ⟨y, hy0, _⟩ := DataW.trod_int Try.underlying3 g1
        have e0 := hcell 0 (by omega)
        have e1 := hcell 1 (by omega)
        rw [Go.Deep.add_add] at e0 e1
        simp at hx0 hy0
        subst hx0 hy0
        exact ⟨(x, y), by simpa using e0, by simpa using e1⟩)
    have hpl : ((List.range len0).map q).length = len0 := by simp
    refine ⟨some ad, (List.range len0).map q, cap0, by rw [hpl], ⟨⟨fun hp => ?_⟩⟩⟩
    have hp' : 0 < len0 := by
      rw [flat_length, hpl] at hp; omega
    obtain ⟨b, off, spot⟩ := ad
    have hspot : spot = none := by simpa [Addr.add] using World.cell?_spot (hq 0 hp').1
    subst hspot
    refine ⟨b, off, rfl, World.block_lt_of_cell? W _ (hq 0 hp').1, fun k u hu => ?_⟩
    have hk : k < 2 * len0 := by
      have := (List.getElem?_eq_some_iff.1 hu).1
      rw [flat_length, hpl] at this; omega
    obtain ⟨i, hki⟩ : ∃ i, k = 2 * i ∨ k = 2 * i + 1 := ⟨k / 2, by omega⟩
    have hi : i < len0 := by omega
    have hf := flat_at ((List.range len0).map q) (k := i) (by rw [hpl]; exact hi)
    simp only [List.getElem_map, List.getElem_range] at hf
    rcases hki with rfl | rfl
    · rw [hf.1] at hu
      cases hu
      rw [← Go.WideShapes.add_plain, Nat.mul_comm]; exact (hq i hi).1
    · rw [hf.2] at hu
      cases hu
      rw [← Go.WideShapes.add_plain, Nat.mul_comm]; exact (hq i hi).2

set_option maxRecDepth 100000 in
/-- an argument that is a pair of numbers -/
theorem open_two {W : World} {base : Nat} {v : Value} {d : DataW H} {p : List MemPlace} (hv : Value.okWide Try.prog W .any base 33 v) (h : DataW.Trod enc Try.prog W 0 (fun _ => true) true 33 v d p) :
    ∃ x y : Int, v = .agg #[.int .i64 x, .int .i64 y] ∧ (-9223372036854775808 ≤ x ∧ x ≤ 9223372036854775807) ∧ (-9223372036854775808 ≤ y ∧ y ≤ 9223372036854775807) := by
  unfold Value.okWide at hv
  rw [Try.underlying33] at hv
  obtain ⟨cs, rfl, hlen, _⟩ := hv
  rw [cells2] at hlen
  obtain ⟨fuel, hf⟩ := h
  obtain ⟨xs, k, _, _, _, hxl, hg⟩ := DataW.trod_array Try.underlying33 hf
  obtain ⟨v0, v1, rfl⟩ : ∃ v0 v1, cs = #[v0, v1] := by
    match cs, hlen with
    | ⟨[v0, v1]⟩, _ => exact ⟨v0, v1, rfl⟩
  have g0 := hg 0 (by omega)
  have g1 := hg 1 (by omega)
  rw [List.getElem?_eq_getElem (by omega)] at g0 g1
  simp [cellsInt, Value.cells] at g0 g1
  obtain ⟨x, hx0, _, wx⟩ := DataW.trod_int Try.underlying3 g0
  obtain ⟨y, hy0, _, wy⟩ := DataW.trod_int Try.underlying3 g1
  simp at hx0 hy0
  subst hx0 hy0
  exact ⟨x, y, rfl, wf_i64 wx, wf_i64 wy⟩

end

/-- a start -/
noncomputable def baseWorld (os : Os) : World := World.holding Try.prog os ⟨#[], #[], []⟩
end Go.Proofs.Ytcckocaaoklibaa
