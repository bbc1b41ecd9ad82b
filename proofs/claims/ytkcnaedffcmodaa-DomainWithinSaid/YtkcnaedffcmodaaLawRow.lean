/- From a walk to a row: variables, numbers and lists as arguments; what a law leaves. -/
import Derived.Test.YtkcnaedffcmodaaRows
import Derived.Test.YtkcnaedffcmodaaVar
import Derived.ChangeMaps5
import Derived.SliceStrings
import Derived.Deep.Slices
import Derived.Deep.Fields
import Derived.ChangeSame
import Derived.ProofKit
import Derived.OpenShut
import Derived.Deep.DeepHandedRow
import Derived.Lib.SmallJoins
import Derived.Lib.LaidTab
import Derived.Stop.LaidErr
namespace Go.Proofs.Ytkcnaedffcmodaa
open Go.ChangeShapes Go.WideShapes Go.ChangeAt Go.RowKit
set_option linter.unusedVariables false

instance : Inhabited Kd.V := ⟨⟨⟨#[]⟩, 0, 0, 0, 0⟩⟩
theorem own : ownKnob Try.prog.godebug = none := by kernel_rfl
theorem laidOut : laidOutB Try.prog = true := by kernel_rfl
theorem cellsInt : Try.prog.cellsOf 3 = 1 := by kernel_rfl

section
variable {H : Type} {enc : TypeId × Value → H}

/-- arguments that were read are read again in a world in which nothing old has turned -/
theorem trodAll_below {W W' : World} (hb : Below W.heap.size W W') : ∀ {ts : List TypeId} {vs : List Value} {ds : List (DataW H)} {ps : List MemPlace},
    (∀ t ∈ ts, Try.prog.readableRec t = true ∧ t < Try.prog.types.size) → (∀ x ∈ ps, x.block < W.heap.size) → DataW.TrodAll enc Try.prog W 0 (fun _ => true) true ts vs ds ps →
    DataW.TrodAll enc Try.prog W' 0 (fun b => decide (b < W.heap.size)) true ts vs ds ps := by
  intro ts
  induction ts with
  | nil =>
    intro vs ds ps _ _ h
    obtain ⟨rfl, rfl, rfl⟩ := trodAll_nil h
    exact trodAll_mk0
  | cons t ts ih =>
    intro vs ds ps ht hp h
    obtain ⟨v, vs', d, ds', p, q, rfl, rfl, rfl, h1, h2⟩ := trodAll_cons h
    exact trodAll_cons_mk (Below.trod laidOut (ht t (by simp)).1 (ht t (by simp)).2 h1 hb (fun x hx => hp x (by simp [hx]))) (ih (fun t' h' => ht t' (by simp [h'])) (fun x hx => hp x (by simp [hx])) h2)

/-- what a law leaves: true; its arguments read as they did -/
theorem law_post {f : Func} {s : ChangeSpec} {W W' : World} {args : Array Value} {ds : List (DataW H)} {before : List MemPlace}
    (hv : s.vars = []) (hW : DataW.Whole enc Try.prog f.params.toList s.vars false W args.toList ds [] before) (hA : DataW.TrodAll enc Try.prog W 0 (fun _ => true) true f.params.toList args.toList ds before)
    (ht : ∀ t ∈ f.params.toList, Try.prog.readableRec t = true ∧ t < Try.prog.types.size) (hr : f.resultTypes = #[4])
    (hs1 : (s.fn H (ds ++ [])).results = [.lit (.bool true)]) (hs2 : (s.fn H (ds ++ [])).args = ds) (hs3 : (s.fn H (ds ++ [])).vars = []) (hb : Below W.heap.size W W') :
    s.post enc Try.prog f false true false false W args (.bool true) W' := by
  refine ⟨ds, [], before, [], before, [], hW, ?_, ?_, ?_, hb.frame _, fun h => by cases h⟩
  · rw [hs1, hr]
    exact trodAll_cons_mk (shut_bool Try.underlying4 true) trodAll_mk0
  · rw [hs2]
    exact trodAll_below hb ht (fun x hx => hW.lt x hx) hA
  · rw [hs3, hv]
    exact rfl

theorem cells2 : Try.prog.cellsOf 36 = 2 := by kernel_rfl
theorem cells3 : Try.prog.cellsOf 40 = 3 := by kernel_rfl
theorem cellsStr : Try.prog.cellsOf 9 = 1 := by kernel_rfl
theorem wf_i64 {x : Int} (h : (Lit.int .i64 x).wf = true) : -9223372036854775808 ≤ x ∧ x ≤ 9223372036854775807 := by
  simpa [Lit.wf, IntKind.min, IntKind.max, IntKind.signed, IntKind.bits] using h


theorem cellsVar : Try.prog.cellsOf 51 = 5 := by kernel_rfl
theorem cellsKind : Try.prog.cellsOf 23 = 1 := by kernel_rfl
theorem cellsBox : Try.prog.cellsOf 46 = 2 := by kernel_rfl
theorem cellsInts : Try.prog.cellsOf 29 = 1 := by kernel_rfl

set_option maxRecDepth 100000 in
/-- an argument that is a list of variables -/
theorem open_vars {W : World} {base : Nat} {v : Value} {d : DataW H} {p : List MemPlace} (hv : Value.okWide Try.prog W .any base 22 v) (h : DataW.Trod enc Try.prog W 0 (fun _ => true) true 22 v d p) :
    ∃ A vs c, v = .slice A vs.length c ∧ Vrs W W.heap.size A vs := by
  obtain ⟨a0, len0, cap0, rfl⟩ := okWide_slice Try.underlying22 hv
  obtain ⟨fuel, hf⟩ := h
  rcases Go.Deep.open_slice Try.underlying22 hf with ⟨e1, _⟩ | ⟨ad, len, cap, m, n, D, Pl, e1, _, hl, _, hm, _, hx⟩
  · simp [Value.cells] at e1
    obtain ⟨rfl, rfl, rfl⟩ := e1
    exact ⟨none, [], 0, rfl, Vrs.nil _ _ _⟩
  · simp [Value.cells] at e1
    obtain ⟨rfl, rfl, rfl⟩ := e1
    have hmc : m = cap0 := by simpa using hm
    obtain ⟨q, hq⟩ := Go.Deep.choose_lt (α := Kd.V) (n := len0) (p := fun i z => (inI z.kd ∧ inI z.lo ∧ inI z.hi ∧ inI z.ini) ∧ W.cell? (ad.add (i * 5)) = some (.string z.nm) ∧ W.cell? (ad.add (i * 5 + 1)) = some (.int .i64 z.kd)
        ∧ W.cell? (ad.add (i * 5 + 2)) = some (.int .i64 z.lo) ∧ W.cell? (ad.add (i * 5 + 3)) = some (.int .i64 z.hi) ∧ W.cell? (ad.add (i * 5 + 4)) = some (.int .i64 z.ini)) (fun i hi => by
      obtain ⟨cs', h1, h2⟩ := hx i (by omega)
      rw [cellsVar] at h1
      obtain ⟨_, hlen, hcell⟩ := World.cells?_some h1
      obtain ⟨ys, n', _, _, _, hyl, hg⟩ := DataW.trod_struct Try.underlying51 h2
      match cs', hlen with
      | [v0, v1, v2, v3, v4], _ =>
        have g0 := hg 0 _ rfl
        have g1 := hg 1 _ rfl
        have g2 := hg 2 _ rfl
        have g3 := hg 3 _ rfl
        have g4 := hg 4 _ rfl
        simp at hyl
        rw [List.getElem?_eq_getElem (by omega)] at g0 g1 g2 g3 g4
        simp [cellsInt, cellsStr, cellsKind] at g0 g1 g2 g3 g4
        obtain ⟨s, hs0, _⟩ := DataW.trod_string Try.underlying9 g0
        obtain ⟨x1, hx1, _, w1⟩ := DataW.trod_int Try.underlying23 g1
        obtain ⟨x2, hx2, _, w2⟩ := DataW.trod_int Try.underlying3 g2
        obtain ⟨x3, hx3, _, w3⟩ := DataW.trod_int Try.underlying3 g3
        obtain ⟨x4, hx4, _, w4⟩ := DataW.trod_int Try.underlying3 g4
        have e0 := hcell 0 (by omega)
        have e1 := hcell 1 (by omega)
        have e2 := hcell 2 (by omega)
        have e3 := hcell 3 (by omega)
        have e4 := hcell 4 (by omega)
        rw [Go.Deep.add_add] at e0 e1 e2 e3 e4
        simp at hs0 hx1 hx2 hx3 hx4
        subst hs0 hx1 hx2 hx3 hx4
        exact ⟨⟨s, x1, x2, x3, x4⟩, ⟨wf_i64 w1, wf_i64 w2, wf_i64 w3, wf_i64 w4⟩, by simpa using e0, by simpa using e1, by simpa using e2, by simpa using e3, by simpa using e4⟩)
    have hpl : ((List.range len0).map q).length = len0 := by simp
    refine ⟨some ad, (List.range len0).map q, cap0, by rw [hpl], ⟨⟨fun hp => ?_⟩, fun v hv => ?_⟩⟩
    · have hp' : 0 < len0 := by
        rw [vflat_len, hpl] at hp; omega
      obtain ⟨b, off, spot⟩ := ad
      have hspot : spot = none := by simpa [Addr.add] using World.cell?_spot (hq 0 hp').2.1
      subst hspot
      refine ⟨b, off, rfl, World.block_lt_of_cell? W _ (hq 0 hp').2.1, fun k u hu => ?_⟩
      have hk : k < len0 * 5 := by
        have := (List.getElem?_eq_some_iff.1 hu).1
        rw [vflat_len, hpl] at this; omega
      obtain ⟨i, j, hj, rfl⟩ : ∃ i j, j < 5 ∧ k = i * 5 + j := ⟨k / 5, k % 5, by omega, by omega⟩
      have hi : i < len0 := by omega
      have hf := flatAt vcells 5 (fun _ => rfl) ((List.range len0).map q) (k := i) (j := j) (by rw [hpl]; exact hi) hj
      have hu' : (((List.range len0).map q).flatMap vcells)[i * 5 + j]? = some u := hu
      rw [hf, List.getElem_map, List.getElem_range] at hu'
      have hqi := (hq i hi).2
      rw [← Go.WideShapes.add_plain]
      match j, hj, hu' with
      | 0, _, hu' => cases hu'; exact hqi.1
      | 1, _, hu' => cases hu'; exact hqi.2.1
      | 2, _, hu' => cases hu'; exact hqi.2.2.1
      | 3, _, hu' => cases hu'; exact hqi.2.2.2.1
      | 4, _, hu' => cases hu'; exact hqi.2.2.2.2
    · obtain ⟨i, hi, rfl⟩ := List.mem_map.1 hv
      exact (hq i (List.mem_range.1 hi)).1

set_option maxRecDepth 100000 in
/-- an argument that is a list of numbers -/
theorem open_zs {W : World} {base : Nat} {v : Value} {d : DataW H} {p : List MemPlace} (hv : Value.okWide Try.prog W .any base 29 v) (h : DataW.Trod enc Try.prog W 0 (fun _ => true) true 29 v d p) :
    ∃ A zs c, v = .slice A zs.length c ∧ Ints W W.heap.size A zs := by
  obtain ⟨a0, len0, cap0, rfl⟩ := okWide_slice Try.underlying29 hv
  obtain ⟨fuel, hf⟩ := h
  rcases open_ints Try.underlying29 Try.underlying3 cellsInt hf with ⟨e1, _⟩ | ⟨ad, len, cap, zs, e1, _, hl, _, hz, _, hc, hw⟩
  · simp [Value.cells] at e1
    obtain ⟨rfl, rfl, rfl⟩ := e1
    exact ⟨none, [], 0, rfl, ⟨Row.nil _ _ _, fun x hx => by cases hx⟩⟩
  · simp [Value.cells] at e1
    obtain ⟨rfl, rfl, rfl⟩ := e1
    have hzl : zs.length = cap0 := by simpa using hz
    refine ⟨some ad, zs.take len0, cap0, by rw [List.length_take, Nat.min_eq_left (by omega)], ⟨⟨fun hp => ?_⟩, fun x hx => ?_⟩⟩
    · have hp' : 0 < len0 := by
        rw [List.length_map, List.length_take] at hp; omega
      obtain ⟨b, off, rfl, hc'⟩ := ints_at hc (by omega)
      refine ⟨b, off, rfl, World.block_lt_of_cell? W _ (hc' 0 (by omega)), fun k u hu => ?_⟩
      have hk : k < len0 := by
        have := (List.getElem?_eq_some_iff.1 hu).1
        rw [List.length_map, List.length_take] at this; omega
      rw [List.getElem?_map, List.getElem?_take_of_lt hk, List.getElem?_eq_getElem (by omega)] at hu
      simp only [Option.map_some, Option.some.injEq] at hu
      subst hu
      rw [hc' k (by omega), List.getD_eq_getElem?_getD, List.getElem?_eq_getElem (by omega)]; rfl
    · have := hw x (List.mem_of_mem_take hx)
      exact (show -9223372036854775808 ≤ x ∧ x ≤ 9223372036854775807 by simpa [Lit.wf, IntKind.min, IntKind.max, IntKind.signed, IntKind.bits] using this)
set_option maxRecDepth 100000 in
/-- an argument that is a pair of numbers -/
theorem open_two {W : World} {base : Nat} {v : Value} {d : DataW H} {p : List MemPlace} (hv : Value.okWide Try.prog W .any base 36 v) (h : DataW.Trod enc Try.prog W 0 (fun _ => true) true 36 v d p) :
    ∃ x y : Int, v = .agg #[.int .i64 x, .int .i64 y] ∧ (-9223372036854775808 ≤ x ∧ x ≤ 9223372036854775807) ∧ (-9223372036854775808 ≤ y ∧ y ≤ 9223372036854775807) := by
  unfold Value.okWide at hv
  rw [Try.underlying36] at hv
  obtain ⟨cs, rfl, hlen, _⟩ := hv
  rw [cells2] at hlen
  obtain ⟨fuel, hf⟩ := h
  obtain ⟨xs, k, _, _, _, hxl, hg⟩ := DataW.trod_array Try.underlying36 hf
  obtain ⟨v0, v1, rfl⟩ : ∃ v0 v1, cs = #[v0, v1] := by
    match cs, hlen with
    | ⟨[v0, v1]⟩, _ => exact ⟨v0, v1, rfl⟩
  have g0 := hg 0 (by omega)
  have g1 := hg 1 (by omega)
  rw [List.getElem?_eq_getElem (by omega)] at g0 g1
  simp [cellsInt, Value.cells] at g0 g1
  obtain ⟨x, hx0, _, wx⟩ := DataW.trod_int Try.underlying3 g0
  obtain ⟨y, hy0, _, wy⟩ := DataW.trod_int Try.underlying3 g1
  simp at hx0 hy0
  subst hx0 hy0
  exact ⟨x, y, rfl, wf_i64 wx, wf_i64 wy⟩

set_option maxRecDepth 100000 in
/-- an argument that is three numbers -/
theorem open_three {W : World} {base : Nat} {v : Value} {d : DataW H} {p : List MemPlace} (hv : Value.okWide Try.prog W .any base 40 v) (h : DataW.Trod enc Try.prog W 0 (fun _ => true) true 40 v d p) :
    ∃ x y z : Int, v = .agg #[.int .i64 x, .int .i64 y, .int .i64 z] ∧ (-9223372036854775808 ≤ x ∧ x ≤ 9223372036854775807) ∧ (-9223372036854775808 ≤ y ∧ y ≤ 9223372036854775807) ∧ (-9223372036854775808 ≤ z ∧ z ≤ 9223372036854775807) := by
  unfold Value.okWide at hv
  rw [Try.underlying40] at hv
  obtain ⟨cs, rfl, hlen, _⟩ := hv
  rw [cells3] at hlen
  obtain ⟨fuel, hf⟩ := h
  obtain ⟨xs, k, _, _, _, hxl, hg⟩ := DataW.trod_array Try.underlying40 hf
  obtain ⟨v0, v1, v2, rfl⟩ : ∃ v0 v1 v2, cs = #[v0, v1, v2] := by
    match cs, hlen with
    | ⟨[v0, v1, v2]⟩, _ => exact ⟨v0, v1, v2, rfl⟩
  have g0 := hg 0 (by omega)
  have g1 := hg 1 (by omega)
  have g2 := hg 2 (by omega)
  rw [List.getElem?_eq_getElem (by omega)] at g0 g1 g2
  simp [cellsInt, Value.cells] at g0 g1 g2
  obtain ⟨x, hx0, _, wx⟩ := DataW.trod_int Try.underlying3 g0
  obtain ⟨y, hy0, _, wy⟩ := DataW.trod_int Try.underlying3 g1
  obtain ⟨z, hz0, _, wz⟩ := DataW.trod_int Try.underlying3 g2
  simp at hx0 hy0 hz0
  subst hx0 hy0 hz0
  exact ⟨x, y, z, rfl, wf_i64 wx, wf_i64 wy, wf_i64 wz⟩

end

/-- a start -/
noncomputable def baseWorld (os : Os) : World := World.holding Try.prog os ⟨#[], #[], []⟩
end Go.Proofs.Ytkcnaedffcmodaa
