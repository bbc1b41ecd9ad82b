/- Walks: cmp.Or, check, checkPlace, checkScalars, Expr, placeCost of package cost. -/
import Derived.Test.YtmemkcaikajnnaaGreatDoorCe
namespace Go.Proofs.YtmemkcaikajnnaaGreatDoor
open Go.RowKit Go.Sort
set_option linter.unusedVariables false

/-- numbers in memory -/
structure Zs (w : World) (B : Nat) (A : Option Addr) (zs : List Int) : Prop where
  row : Row w B A (zs.map fun x => Value.int .i64 x)
theorem Zs.below {w w' : World} {B : Nat} {A : Option Addr} {zs : List Int} (h : Zs w B A zs) (hb : Below B w w') : Zs w' B A zs := ⟨h.row.below hb⟩
theorem Zs.more {w : World} {B B' : Nat} {A : Option Addr} {zs : List Int} (h : Zs w B A zs) (hB : B ≤ B') : Zs w B' A zs := ⟨h.row.more hB⟩
theorem Zs.at {w w' : World} {A : Option Addr} {zs : List Int} (h : Zs w w.heap.size A zs) (hb : Below w.heap.size w w') : Zs w' w'.heap.size A zs := (h.below hb).more hb.size
theorem Zs.at_ {w : World} {B : Nat} {A : Option Addr} {zs : List Int} (h : Zs w B A zs) {k : Nat} (hk : k < zs.length) :
    ∃ b off x, A = some ⟨b, off, none⟩ ∧ b < B ∧ w.cell? ⟨b, off + k, none⟩ = some (.int .i64 x) ∧ Hid (∃ h : k < zs.length, zs[k] = x) := by
  obtain ⟨b, off, e, hb, hc⟩ := h.row.cells (by simp; omega)
  refine ⟨b, off, zs[k], e, hb, hc k _ ?_, Lib.hid ⟨hk, rfl⟩⟩
  rw [List.getElem?_map, List.getElem?_eq_getElem hk]; rfl
theorem Zs.new_ (w : World) (zs : List Int) (T : TypeId) (vs : Array Value) (h : vs.toList = zs.map fun x => Value.int .i64 x) : Zs (w.alloc (.cells vs T)) (w.alloc (.cells vs T)).heap.size (some ⟨w.heap.size, 0, none⟩) zs :=
  ⟨⟨fun _ => ⟨w.heap.size, 0, rfl, by simp, fun k u hu => by
    have hb := Blk.new_ w vs T
    rw [Nat.zero_add]
    refine hb.c k ?_
    rw [← h, Array.getElem?_toList] at hu
    exact hu⟩⟩⟩
/-- the first number that is not 0 -/
def orL : List Int → Int | [] => 0 | x :: l => if x = 0 then orL l else x
theorem orL_skip {zs : List Int} {k : Nat} (h : ∀ j, (hj : j < zs.length) → j < k → zs[j] = 0) : orL zs = orL (zs.drop k) := by
  induction zs generalizing k with
  | nil => simp
  | cons a l ih =>
    cases k with
    | zero => rfl
    | succ k =>
      have h0 : a = 0 := h 0 (by simp) (by omega)
      rw [List.drop_succ_cons, orL, if_pos h0]
      exact ih (fun j hj hjk => h (j + 1) (by simpa using hj) (by omega))
set_option maxRecDepth 100000 in
set_option maxHeartbeats 1000000 in
theorem or_any (zs : List Int) (A : Option Addr) (c : Nat) (w : World) (h : Zs w w.heap.size A zs) (hl : zs.length ≤ 1000000) : Calls Tryz.prog 35 #[.slice A zs.length c] w fun r w' => r = .returned (.int .i64 (orL zs)) ∧ w = w' := by
  go_enter Tryz.func35, Tryz.ntmps35
  go_wp2_with fail
  go_loop [8] (fun iv => ∃ i : Nat, i ≤ zs.length ∧ iv = .int .i64 i ∧ Hid (∀ j, (hj : j < zs.length) → j < i → zs[j] = 0)) (fun iv => zs.length - (intOf iv).toNat)
  case atStart => exact ⟨0, Nat.zero_le _, rfl, Lib.hid (fun j hj h => absurd h (Nat.not_lt_zero _))⟩
  case round =>
    obtain ⟨i, hi, rfl, hz⟩ := hrel
    by_cases hlt : i < zs.length
    · obtain ⟨b, off, x, rfl, hb, c0, hx⟩ := h.at_ hlt
      by_cases h0 : x = 0
      · have hx0 : (x != 0) = false := by simpa using h0
        have HN : Hid (∀ j, (hj : j < zs.length) → j < i + 1 → zs[j] = 0) := Lib.hid (fun j hj h => by
          by_cases e : j = i
          · subst e; obtain ⟨_, e2⟩ := hx.out; rw [e2]; exact h0
          · exact hz.out j hj (by omega))
        clear hz h0
        go_wp2_with fail
        go_round
        case rel => exact ⟨i + 1, by omega, by go_num, HN⟩
        case measure => simp [intOf]; omega
      · have hx0 : (x != 0) = true := by simpa using h0
        have HR : Hid (orL zs = x) := Lib.hid (by
          rw [orL_skip hz.out, List.drop_eq_getElem_cons hlt]
          obtain ⟨_, e2⟩ := hx.out
          show (if zs[i] = 0 then _ else _) = _
          rw [e2, if_neg h0])
        clear hz h0
        go_wp2_with fail
        go_ret
        exact ⟨ret_int HR.out.symm, rfl⟩
    · obtain rfl : i = zs.length := by omega
      have HR : Hid (orL zs = 0) := Lib.hid (by rw [orL_skip hz.out, List.drop_length]; rfl)
      go_wp2_with fail
      go_ret
      exact ⟨ret_int HR.out.symm, rfl⟩

/-- the code of numbers of scalars -/
def scC (zs : List Int) : Int := if zs.all (fun x => decide (0 ≤ x) && decide (x ≤ 32)) then 0 else 3
/-- the code of a place -/
def plC (e : E) : Int := if e.place then 0 else 1
set_option maxRecDepth 100000 in
set_option maxHeartbeats 1000000 in
theorem cplace_any (e : E) (w : World) : Calls Tryz.prog 36 #[e.val] w fun r w' => r = .returned (.int .i64 (plC e)) ∧ Below w.heap.size w w' := by
  obtain ⟨z, hz⟩ : ∃ z, Hid (z = plC e) := ⟨_, Lib.hid rfl⟩
  rw [← hz.out]
  go_enter Tryz.func36, Tryz.ntmps36
  go_wp2_with fail
  all_goals
    go_ret
    refine ⟨ret_int ?_, al1 _ _⟩
    rw [hz.out]
    clear hz
    unfold plC E.place
    simp_all
  all_goals omega

/-- the code of a model and of expressions -/
def ckC (c : C) (l : List E) : Int := if c.ok then orL (l.map (E.chk nmB)) else 3
/-- expressions that can be looked at -/
structure Okl (w : World) (A : Option Addr) (l : List E) : Prop where
  li : E.L w w.heap.size A l
  big : ∀ e : E, e ∈ l → e.any E.big = false
set_option maxRecDepth 100000 in
set_option maxHeartbeats 1000000 in
theorem ccheck_any (c : C) (l : List E) (A : Option Addr) (cp : Nat) (w : World) (h : Okl w A l) (hT : Tb w.heap.size w) : Calls Tryz.prog 33 #[c.val, .slice A l.length cp] w fun r w' => r = .returned (.int .i64 (ckC c l)) ∧ Below w.heap.size w w' := by
  have hlen := h.li.len
  cases hok : c.ok with
  | false =>
    have HK : Hid (c.code = 3) := Lib.hid (by unfold C.code; rw [hok]; rfl)
    have HR : Hid (ckC c l = 3) := Lib.hid (by unfold ckC; rw [hok]; rfl)
    go_enter Tryz.func33, Tryz.ntmps33
    go_wp2_with fail
    refine (check_any c _).mono ?_
    rintro r w1 ⟨rfl, b1⟩
    rw [HK.out]
    go_wp2_with fail
    go_ret
    exact ⟨ret_int HR.out.symm, bTrans (al1 _ _) b1⟩
  | true =>
    have HK : Hid (c.code = 0) := Lib.hid (by unfold C.code; rw [hok]; rfl)
    have HR : Hid (ckC c l = orL (l.map (E.chk nmB))) := Lib.hid (by unfold ckC; rw [hok]; rfl)
    clear hok
    go_enter Tryz.func33, Tryz.ntmps33
    go_wp2_with fail
    refine (check_any c _).mono ?_
    rintro r w1 ⟨rfl, b1⟩
    rw [HK.out]
    have b2 := bTrans (al1 w _) b1
    clear b1
    go_wp2_with fail
    go_loopw [16] (fun iv wr => ∃ i : Nat, i ≤ l.length ∧ iv = .int .i64 i ∧ Hid (∀ j, (hj : j < (l.map (E.chk nmB)).length) → j < i → (l.map (E.chk nmB))[j] = 0) ∧ Below w.heap.size w wr) (fun iv _ => l.length - (intOf iv).toNat)
    case atStart => exact ⟨0, Nat.zero_le _, rfl, Lib.hid (fun j hj h => absurd h (Nat.not_lt_zero _)), b2⟩
    case round =>
      clear b2
      obtain ⟨i, hi, rfl, hz, hb⟩ := hrel
      by_cases hlt : i < l.length
      · obtain ⟨ab, off, e, rfl, hab, d0, d1, d2, d3, his, hin⟩ := (h.li.below hb).at_ hlt
        have HBG := Lib.hid (h.big e his.mem)
        have hb3 : Below w.heap.size w (wr.alloc (.cells e.box 44)) := hb.alloc hb.size _
        have hin2 := (hin.below ((al1 wr (.cells e.box 44)).mono hb.size)).more (show w.heap.size ≤ (wr.alloc (.cells e.box 44)).heap.size by have := hb.size; simp; omega)
        have hT2 := hT.at hb3
        obtain ⟨z, hzz⟩ : ∃ z, Hid (E.chk nmB e = z) := ⟨_, Lib.hid rfl⟩
        have HG : Hid ((l.map (E.chk nmB))[i]? = some z) := Lib.hid (by
          obtain ⟨h1, h2⟩ := his.eq
          rw [List.getElem?_map, List.getElem?_eq_getElem hlt, h2, ← hzz.out]; rfl)
        by_cases h0 : z = 0
        · have hx0 : (z != 0) = false := by simpa using h0
          have HN : Hid (∀ j, (hj : j < (l.map (E.chk nmB)).length) → j < i + 1 → (l.map (E.chk nmB))[j] = 0) := Lib.hid (fun j hj h => by
            by_cases e : j = i
            · subst e
              have := HG.out
              rw [List.getElem?_eq_getElem hj] at this
              rw [Option.some.inj this]; exact h0
            · exact hz.out j hj (by omega))
          clear hz h0
          go_wp2_with fail
          refine (checkExpr_any e _ hin2 HBG.out hT2).mono ?_
          rintro r w3 ⟨rfl, b4⟩
          rw [hzz.out]
          have b5 := bTrans hb3 b4
          go_wp2_with fail
          go_roundw
          case rel => exact ⟨i + 1, by omega, by go_num, HN, b5⟩
          case measure => simp [intOf]; omega
        · have hx0 : (z != 0) = true := by simpa using h0
          have HR2 : Hid (orL (l.map (E.chk nmB)) = z) := Lib.hid (by
            have hlt2 : i < (l.map (E.chk nmB)).length := by simpa using hlt
            rw [orL_skip hz.out, List.drop_eq_getElem_cons hlt2]
            have := HG.out
            rw [List.getElem?_eq_getElem hlt2] at this
            show (if (l.map (E.chk nmB))[i] = 0 then _ else _) = _
            rw [Option.some.inj this, if_neg h0])
          clear hz h0
          go_wp2_with fail
          refine (checkExpr_any e _ hin2 HBG.out hT2).mono ?_
          rintro r w3 ⟨rfl, b4⟩
          rw [hzz.out]
          have b5 := bTrans hb3 b4
          go_wp2_with fail
          go_ret
          exact ⟨ret_int (by rw [HR.out, HR2.out]), b5⟩
      · obtain rfl : i = l.length := by omega
        have HR2 : Hid (orL (l.map (E.chk nmB)) = 0) := Lib.hid (by
          have hd : (l.map (E.chk nmB)).drop l.length = [] := by rw [List.drop_eq_nil_iff, List.length_map]; exact Nat.le_refl _
          rw [orL_skip hz.out, hd]; rfl)
        go_wp2_with fail
        go_ret
        exact ⟨ret_int (by rw [HR.out, HR2.out]), hb⟩
end Go.Proofs.YtmemkcaikajnnaaGreatDoor
