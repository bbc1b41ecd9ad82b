/- The law DomainWithin, walked; its arguments. -/
import Derived.Test.YtkcnaedffcmodaaLaws2
import Derived.Test.YtkcnaedffcmodaaLawRow
namespace Go.Proofs.Ytkcnaedffcmodaa
open Go.RowKit Go.Maps Go.ChangeShapes Go.WideShapes Go.ChangeAt
set_option linter.unusedVariables false

section
variable {H : Type} {enc : TypeId × Value → H}
/-- a slice's datum has as many elements as the slice -/
theorem vars_data {W : World} {A : Option Addr} {n c : Nat} {d : DataW H} {p : List MemPlace} (h : DataW.Trod enc Try.prog W 0 (fun _ => true) true 22 (.slice A n c) d p) :
    (n = 0) ∨ ∃ elems spare, d = .slice elems spare ∧ elems.length = n := by
  obtain ⟨fuel, hf⟩ := h
  rcases Go.Deep.open_slice Try.underlying22 hf with ⟨e1, _⟩ | ⟨ad, len, cap, m, k, D, Pl, e1, _, hl, _, hm, hx, _⟩
  · simp [Value.cells] at e1
    exact .inl e1.2.1
  · simp [Value.cells] at e1
    injection hx with hx1 hx2
    exact .inr ⟨_, _, hx1, by rw [List.length_map, List.length_range]; exact e1.2.1.symm⟩
theorem bytesVar : Try.prog.bytesOf 51 = 48 := by kernel_rfl
/-- how long a list of variables can be -/
theorem vars_room {W : World} {A : Option Addr} {n c : Nat} {d : DataW H} {p : List MemPlace} {ts : List TypeId} {ds : List (DataW H)} (h : DataW.Trod enc Try.prog W 0 (fun _ => true) true 22 (.slice A n c) d p)
    (hw : (DataW.weightsEach Try.prog (22 :: ts) (d :: ds)).all (· ≤ reachBytes) = true) : n * 48 ≤ 140737488351232 := by
  rcases vars_data h with rfl | ⟨elems, spare, rfl, he⟩
  · omega
  · rw [List.all_eq_true] at hw
    have hmem : (elems.length + spare.length) * Try.prog.bytesOf 51 ∈ DataW.weightsEach Try.prog (22 :: ts) (DataW.slice elems spare :: ds) := by
      unfold DataW.weightsEach DataW.weights
      rw [Try.underlying22]
      simp
    have h1 := hw _ hmem
    rw [bytesVar, he] at h1
    have h2 : (n + spare.length) * 48 ≤ reachBytes := by simpa using h1
    have h3 : reachBytes = 140737488351232 := by decide
    rw [h3, Nat.add_mul] at h2
    omega

set_option maxRecDepth 100000 in
/-- a cell that is a list of numbers -/
theorem open_cellZs {W : World} {v : Value} {fuel : Nat} {x : DataW H × List MemPlace} (hf : DataW.trod enc Try.prog W 0 (fun _ => true) true fuel 29 [v] = some x) :
    ∃ A zs c, v = .slice A zs.length c ∧ Ints W W.heap.size A zs := by
  rcases open_ints Try.underlying29 Try.underlying3 cellsInt hf with ⟨e1, _⟩ | ⟨ad, len, cap, zs, e1, _, hl, _, hz, _, hc, hw⟩
  · simp only [List.cons.injEq, and_true] at e1
    subst e1
    exact ⟨none, [], 0, rfl, ⟨Row.nil _ _ _, fun x hx => by cases hx⟩⟩
  · simp only [List.cons.injEq, and_true] at e1
    subst e1
    have hzl : zs.length = cap := by simpa using hz
    refine ⟨some ad, zs.take len, cap, by rw [List.length_take, Nat.min_eq_left (by omega)], ⟨⟨fun hp => ?_⟩, fun x hx => ?_⟩⟩
    · have hp' : 0 < len := by
        rw [List.length_map, List.length_take] at hp; omega
      obtain ⟨b, off, rfl, hc'⟩ := ints_at hc (by omega)
      refine ⟨b, off, rfl, World.block_lt_of_cell? W _ (hc' 0 (by omega)), fun k u hu => ?_⟩
      have hk : k < len := by
        have := (List.getElem?_eq_some_iff.1 hu).1
        rw [List.length_map, List.length_take] at this; omega
      rw [List.getElem?_map, List.getElem?_take_of_lt hk, List.getElem?_eq_getElem (by omega)] at hu
      simp only [Option.map_some, Option.some.injEq] at hu
      subst hu
      rw [hc' k (by omega), List.getD_eq_getElem?_getD, List.getElem?_eq_getElem (by omega)]; rfl
    · have := hw x (List.mem_of_mem_take hx)
      exact (show -9223372036854775808 ≤ x ∧ x ≤ 9223372036854775807 by simpa [Lit.wf, IntKind.min, IntKind.max, IntKind.signed, IntKind.bits] using this)

set_option maxRecDepth 100000 in
/-- an argument that is two lists of numbers -/
theorem open_box {W : World} {base : Nat} {v : Value} {d : DataW H} {p : List MemPlace} (hv : Value.okWide Try.prog W .any base 46 v) (h : DataW.Trod enc Try.prog W 0 (fun _ => true) true 46 v d p) :
    ∃ B cb lo D cd hi, v = .agg #[.slice B (lo : List Int).length cb, .slice D (hi : List Int).length cd] ∧ Ints W W.heap.size B lo ∧ Ints W W.heap.size D hi := by
  unfold Value.okWide at hv
  rw [Try.underlying46] at hv
  obtain ⟨cs, rfl, hlen, _⟩ := hv
  rw [cellsBox] at hlen
  obtain ⟨fuel, hf⟩ := h
  obtain ⟨xs, k, _, _, _, hxl, hg⟩ := DataW.trod_array Try.underlying46 hf
  obtain ⟨v0, v1, rfl⟩ : ∃ v0 v1, cs = #[v0, v1] := by
    match cs, hlen with
    | ⟨[v0, v1]⟩, _ => exact ⟨v0, v1, rfl⟩
  have g0 := hg 0 (by omega)
  have g1 := hg 1 (by omega)
  rw [List.getElem?_eq_getElem (by omega)] at g0 g1
  simp [cellsInts, Value.cells] at g0 g1
  obtain ⟨B, lo, cb, rfl, h1⟩ := open_cellZs g0
  obtain ⟨D, hi, cd, rfl, h2⟩ := open_cellZs g1
  exact ⟨B, cb, lo, D, cd, hi, rfl, h1, h2⟩
end

namespace Kd
theorem wi_bd {k : Int} {vs : List V} {lo hi : List Int} : (wiX k vs lo hi).length ≤ 4096 := by
  by_cases hc : code k vs = 0
  · by_cases h2 : lo.length = (digs k vs).length ∧ hi.length = (digs k vs).length
    · rw [(wi_ok hc h2).1, nats_length]
      unfold win
      exact Nat.le_trans W_len (code_ok hc).2.2.sp
    · rw [(wi_len hc h2).1]; simp
  · rw [(wi_bad hc).1]; simp
end Kd

set_option maxRecDepth 100000 in
set_option maxHeartbeats 2000000 in
theorem within_walk (A : Option Addr) (c : Nat) (vs : List Kd.V) (k : Int) (B : Option Addr) (cb : Nat) (lo : List Int) (D : Option Addr) (cd : Nat) (hi : List Int) (w : World) (h : Vrs w w.heap.size A vs) (hlo : Ints w w.heap.size B lo) (hhi : Ints w w.heap.size D hi) (hl48 : vs.length * 48 ≤ 140737488351232) :
    Calls Try.prog 9 #[.slice A vs.length c, .int .i64 k, .agg #[.slice B lo.length cb, .slice D hi.length cd]] w (LawRes w) := by
  have t0 := Two.new_ w (.slice B lo.length cb) (.slice D hi.length cd) 46
  have b0 := newB1 w (.cells #[.slice B lo.length cb, .slice D hi.length cd] 46)
  have h0 := h.at b0
  have lo0 := hlo.at b0
  have hi0 := hhi.at b0
  have HL := Lib.hid hl48
  clear hl48 h hlo hhi
  go_enter Try.func9, Try.ntmps9
  go_wp2_with fail
  generalize w.alloc (.cells #[.slice B lo.length cb, .slice D hi.length cd] 46) = w0 at t0 b0 h0 lo0 hi0 ⊢
  refine (known_ok w0).mono ?_
  rintro e w1 ⟨rfl, n1⟩
  have t1 := t0.below n1 t0.lt
  have B1 := bTrans b0 n1
  have V1 := h0.at n1
  have lo1 := lo0.at n1
  have hi1 := hi0.at n1
  clear t0 b0 h0 n1 lo0 hi0
  go_wp2_with fail
  refine (rspace_any A c vs k _ V1 HL.out).mono ?_
  rintro e w2 ⟨rfl, n2⟩
  have t2 := t1.below n2 t1.lt
  have B2 := bTrans B1 n2
  have V2 := V1.at n2
  have lo2 := lo1.at n2
  have hi2 := hi1.at n2
  have x0 := t2.c0
  have x1 := t2.c1
  clear t1 B1 V1 n2 lo1 hi1
  by_cases h1 : 80 < vs.length
  · have h1' : (80 : Int) < (vs.length : Int) := by omega
    go_wp2_with fail
    go_ret
    exact ⟨rfl, B2⟩
  have h1' : ¬ (80 : Int) < (vs.length : Int) := by omega
  by_cases h2 : 80 < lo.length
  · have h2' : (80 : Int) < (lo.length : Int) := by omega
    go_wp2_with fail
    go_ret
    exact ⟨rfl, B2⟩
  have h2' : ¬ (80 : Int) < (lo.length : Int) := by omega
  by_cases h3 : 80 < hi.length
  · have h3' : (80 : Int) < (hi.length : Int) := by omega
    go_wp2_with fail
    go_ret
    exact ⟨rfl, B2⟩
  have h3' : ¬ (80 : Int) < (hi.length : Int) := by omega
  have hl : vs.length ≤ 1000000 := by omega
  have hwl : (Kd.wiX k vs lo hi).length ≤ 140737488351232 := Nat.le_trans Kd.wi_bd (by omega)
  have HP := Lib.hid (fun (W : World) (a : Vrs W W.heap.size A vs) (b : Ints W W.heap.size B lo) (d : Ints W W.heap.size D hi) => within_all A c vs k B cb lo D cd hi W a hl b d)
  have HR := Lib.hid (fun (W : World) (a : Vrs W W.heap.size A vs) (b : Ints W W.heap.size B lo) (d : Ints W W.heap.size D hi) => rwithin_any A c vs k B cb lo D cd hi W a hl b d)
  unfold LisRes at HP HR
  generalize Kd.wiX k vs lo hi = zs at HP HR hwl
  generalize Kd.wiC k vs lo hi = C at HP HR
  clear h1 h2 h3 hl
  have key : (Kd.code k vs = 0 ∧ 300 < Kd.spN k vs) ∨ ¬ (Kd.code k vs = 0 ∧ 300 < Kd.spN k vs) := Classical.em _
  rcases key with ⟨k1, k2⟩ | k3
  · have g1 : (Kd.code k vs == 0) = true := by simpa using k1
    clear k1
    go_wp2_with fail
    go_ret
    exact ⟨rfl, B2⟩
  have rest : ∀ G : Prop, (Kd.code k vs = 0 → ¬ 300 < Kd.spN k vs → G) → (Kd.code k vs ≠ 0 → G) → G := fun G g1 g2 => by
    by_cases hc : Kd.code k vs = 0
    · exact g1 hc fun h => k3 ⟨hc, h⟩
    · exact g2 hc
  have RE := Lib.hid rest
  clear k3 rest
  have goal1 : (Kd.code k vs == 0) = true ∧ ¬ 300 < Kd.spN k vs ∨ (Kd.code k vs == 0) = false := RE.out _ (fun a b => .inl ⟨by simpa using a, b⟩) (fun a => .inr (by simpa using a))
  clear RE
  rcases goal1 with ⟨g1, g2⟩ | g1
  all_goals
    go_wp2_with fail
    refine (HP.out _ V2 lo2 hi2).mono ?_
    rintro e w3 ⟨A3, c3, rfl, I3, n3⟩
    have t3 := t2.below n3 t2.lt
    have B3 := bTrans B2 n3
    have V3 := V2.at n3
    have lo3 := lo2.at n3
    have hi3 := hi2.at n3
    clear t2 B2 V2 n3 lo2 hi2 x0 x1 h1' h2' h3' g1
    have x0 := t3.c0
    have x1 := t3.c1
    go_wp2_with fail
    refine (HR.out _ V3 lo3 hi3).mono ?_
    rintro e w4 ⟨A4, c4, rfl, I4, n4⟩
    have B4 := bTrans B3 n4
    have J4 := I3.at n4
    clear t3 B3 V3 n4 lo3 hi3 x0 x1 I3
    go_wp2_with fail
    refine (same_any A3 A4 c3 c4 zs zs _ J4 I4 hwl).mono ?_
    rintro e w5 ⟨rfl, n5⟩
    rw [beq_self_eq_true]
    go_wp2_with fail
    go_ret
    exact ⟨rfl, bTrans B4 n5⟩
end Go.Proofs.Ytkcnaedffcmodaa
