/- Walks: Members, Least, Next and Count of whatever words; the reference's Members and Next; slices.Equal of ints. -/
import Derived.Test.YtmdekgbnpbanaaaDoorLawWalks
namespace Go.Proofs.YtmdekgbnpbanaaaDoor
open Go.RowKit
set_option linter.unusedVariables false

/-- the members, none of what is no set -/
def memL (sz : Int) (ws : List Nat) : List Nat := if Kb.validB sz ws then Kb.membersTo (Kb.bitAt ws) sz.toNat else []
theorem memL_bad {sz : Int} {ws : List Nat} (h : Kb.validB sz ws = false) : memL sz ws = [] := by unfold memL; rw [h]; rfl
theorem memL_ok {n : Nat} {ws : List Nat} (h : Kb.validB n ws = true) : memL n ws = Kb.membersTo (Kb.bitAt ws) n := by unfold memL; rw [h, if_pos rfl, Int.toNat_natCast]
/-- the first member above i -/
def nx (L : List Nat) (i : Int) : Int := match L.find? (fun (x : Nat) => decide (i < (x : Int))) with
  | some x => (x : Int)
  | none => -1
theorem nx_nil (i : Int) : nx [] i = -1 := rfl
theorem nx_next (f : Nat → Bool) (n : Nat) (i : Int) : nx (Kb.membersTo f n) i = Kb.nextFrom f n (i + 1).toNat := by
  unfold nx Kb.nextFrom Kb.membersTo
  rw [List.find?_filter]
  have e : (fun a => decide (f a = true ∧ decide (i < (a : Int)) = true)) = fun j => decide ((i + 1).toNat ≤ j) && f j := by
    funext j
    rw [Bool.eq_iff_iff]
    simp only [decide_eq_true_eq, Bool.and_eq_true]
    constructor
    · rintro ⟨a, b⟩; exact ⟨by omega, a⟩
    · rintro ⟨a, b⟩; exact ⟨b, by omega⟩
  rw [e]
  generalize List.find? _ _ = o
  cases o <;> rfl
theorem memL_le (sz : Int) (ws : List Nat) : (memL sz ws).length ≤ 4096 ∧ ∀ x ∈ memL sz ws, x ≤ 4096 := by
  by_cases h : Kb.validB sz ws = true
  · have hs : sz.toNat ≤ 4096 := by
      unfold Kb.validB at h
      simp only [Bool.and_eq_true, decide_eq_true_eq] at h
      omega
    unfold memL
    rw [if_pos h]
    refine ⟨Nat.le_trans (Kb.membersTo_le _ _) hs, fun x hx => ?_⟩
    have := (Kb.membersTo_mem.1 hx).1
    omega
  · rw [memL_bad (by simpa using h)]; simp

/-- numbers as ints -/
def zL (L : List Nat) : List Int := L.map fun (x : Nat) => (x : Int)
theorem zL_length (L : List Nat) : (zL L).length = L.length := by simp [zL]
/-- what Members hands back -/
def MemRes (L : List Nat) (w : World) (e : Ending) (w' : World) : Prop :=
  ∃ A c, e = .returned (.slice A (zL L).length c) ∧ Ints w' w'.heap.size A (zL L) ∧ Below w.heap.size w w'
/-- what a function that counts hands back -/
def IntRes (x : Int) (w : World) (e : Ending) (w' : World) : Prop := e = .returned (.int .i64 x) ∧ Below w.heap.size w w'

theorem count_any (sz : Int) (A : Option Addr) (c : Nat) (ws : List Nat) (w : World) (h : Words w w.heap.size A ws) (hl : ws.length ≤ 140737488351232) :
    Calls Tryd.prog 37 #[.agg #[.int .i64 sz, .slice A ws.length c]] w (IntRes ((memL sz ws).length : Int) w) := by
  cases hv : Kb.validB sz ws with
  | false => rw [memL_bad hv]; exact count_bad sz A c ws w h hl hv
  | true =>
    obtain ⟨n, rfl⟩ := Int.eq_ofNat_of_zero_le ((Kb.validB_iff h.lt).1 hv).1
    have hok := ((Kb.validB_iff h.lt).1 hv).2.2
    rw [Int.toNat_natCast] at hok
    rw [memL_ok hv]
    exact count_ex n A c ws w h hok (by have := ((Kb.validB_iff h.lt).1 hv).2.1; omega)

theorem next_any (sz : Int) (A : Option Addr) (c : Nat) (ws : List Nat) (i : Int) (w : World) (h : Words w w.heap.size A ws) (hl : ws.length ≤ 140737488351232) (hi : -9223372036854775808 ≤ i) (ht : Tabs w) :
    Calls Tryd.prog 42 #[.agg #[.int .i64 sz, .slice A ws.length c], .int .i64 i] w (IntRes (nx (memL sz ws) i) w) := by
  cases hv : Kb.validB sz ws with
  | false => rw [memL_bad hv, nx_nil]; exact next_bad sz A c ws i w h hl hv
  | true =>
    obtain ⟨n, rfl⟩ := Int.eq_ofNat_of_zero_le ((Kb.validB_iff h.lt).1 hv).1
    have hok := ((Kb.validB_iff h.lt).1 hv).2.2
    rw [Int.toNat_natCast] at hok
    rw [memL_ok hv, nx_next]
    exact next_ok n A c ws i w h hok (by have := ((Kb.validB_iff h.lt).1 hv).2.1; omega) hi ht

theorem least_any (sz : Int) (A : Option Addr) (c : Nat) (ws : List Nat) (w : World) (h : Words w w.heap.size A ws) (hl : ws.length ≤ 140737488351232) (ht : Tabs w) :
    Calls Tryd.prog 40 #[.agg #[.int .i64 sz, .slice A ws.length c]] w (IntRes (nx (memL sz ws) (-1)) w) := by
  cases hv : Kb.validB sz ws with
  | false => rw [memL_bad hv, nx_nil]; exact least_bad sz A c ws w h hl hv
  | true =>
    obtain ⟨n, rfl⟩ := Int.eq_ofNat_of_zero_le ((Kb.validB_iff h.lt).1 hv).1
    have hok := ((Kb.validB_iff h.lt).1 hv).2.2
    rw [Int.toNat_natCast] at hok
    rw [memL_ok hv, nx_next]
    exact least_ok n A c ws w h hok (by have := ((Kb.validB_iff h.lt).1 hv).2.1; omega) ht

set_option maxRecDepth 100000 in
set_option maxHeartbeats 1000000 in
theorem members_bad (sz : Int) (A : Option Addr) (c : Nat) (ws : List Nat) (w : World) (h : Words w w.heap.size A ws) (hl : ws.length ≤ 140737488351232) (hv : Kb.validB sz ws = false) :
    Calls Tryd.prog 39 #[.agg #[.int .i64 sz, .slice A ws.length c]] w (MemRes [] w) := by
  have hmk : ∀ W : World, (Instr.makeSlice 25 (.int .i64 0) (.int .i64 0)).run Tryd.prog W = .ok (.slice (some ⟨W.heap.size, 0, none⟩) 0 0) (W.alloc (.cells (madeCells #[.int .i64 0] 0) 3)) := makeInts 0 (by decide)
  have hX := h.alloc (Nat.le_refl _) (.cells #[.int .i64 sz, .slice A ws.length c] 24)
  go_enter Tryd.func39, Tryd.ntmps39
  go_wp2_with fail
  refine (count_bad sz A c ws _ (hX.more (by simp)) hl hv).mono ?_
  rintro e w1 ⟨rfl, hb⟩
  have t1 : Two w1 w.heap.size (.int .i64 sz) (.slice A ws.length c) := (Two.new_ _ _ _ _).below hb (by simp)
  have hB : Below w.heap.size w w1 := ((Below.refl _ _).alloc (Nat.le_refl _) _).trans (hb.mono (by simp))
  have c10 := t1.c0
  have c11 := t1.c1
  have c12 := t1.lt
  go_wp2_with fail
  have t2 := t1.alloc (.cells (madeCells #[.int .i64 0] 0) 3)
  have hB2 := hB.alloc hB.size (.cells (madeCells #[.int .i64 0] 0) 3)
  clear c10 c11 c12 hmk hX
  revert t2 hB2
  generalize hwx : w1.alloc (.cells (madeCells #[.int .i64 0] 0) 3) = wx
  intro t2 hB2
  refine (least_bad sz A c ws _ ((h.below hB2).more hB2.size) hl hv).mono ?_
  rintro e w2 ⟨rfl, hb2⟩
  go_wp2_with fail
  refine wp_loop_rounds 1 ?_
  rw [rounds_succ]
  go_wp2_with fail
  go_ret
  exact ⟨some ⟨w1.heap.size, 0, none⟩, 0, rfl, ⟨Row.nil _ _ _, by simp [zL]⟩, hB2.trans (hb2.mono hB2.size)⟩

theorem members_any (sz : Int) (A : Option Addr) (c : Nat) (ws : List Nat) (w : World) (h : Words w w.heap.size A ws) (hl : ws.length ≤ 140737488351232) (ht : Tabs w) :
    Calls Tryd.prog 39 #[.agg #[.int .i64 sz, .slice A ws.length c]] w (MemRes (memL sz ws) w) := by
  cases hv : Kb.validB sz ws with
  | false => rw [memL_bad hv]; exact members_bad sz A c ws w h hl hv
  | true =>
    have hle := (memL_le sz ws).2
    obtain ⟨n, rfl⟩ := Int.eq_ofNat_of_zero_le ((Kb.validB_iff h.lt).1 hv).1
    have hok := ((Kb.validB_iff h.lt).1 hv).2.2
    rw [Int.toNat_natCast] at hok
    rw [memL_ok hv] at hle ⊢
    exact (members_ok n A c ws w h hok (by have := ((Kb.validB_iff h.lt).1 hv).2.1; omega) ht).mono fun e w' ⟨A', c', he, ho, hb⟩ => ⟨A', c', by rw [zL_length]; exact he, ints_of_own ho hle, hb⟩

set_option maxRecDepth 100000 in
set_option maxHeartbeats 1000000 in
theorem rmembers_bad (sz : Int) (A : Option Addr) (c : Nat) (ws : List Nat) (w : World) (h : Words w w.heap.size A ws) (hl : ws.length ≤ 140737488351232) (hv : Kb.validB sz ws = false) :
    Calls Tryd.prog 36 #[.agg #[.int .i64 sz, .slice A ws.length c]] w (MemRes [] w) := by
  have hV := Lib.hid hv
  clear hv
  have hB0 : Below w.heap.size w ((w.alloc (.cells #[.int .i64 sz, .slice A ws.length c] 24)).alloc (.cells #[] 3)) := ((Below.refl _ _).alloc (Nat.le_refl _) _).alloc (by simp) _
  go_enter Tryd.func36, Tryd.ntmps36
  go_wp2_with fail
  refine (rvalid_any sz A c ws _ ((h.below hB0).more hB0.size) hl).mono ?_
  rintro e w1 ⟨rfl, hb⟩
  rw [hV.out]
  go_wp2_with fail
  go_ret
  exact ⟨some ⟨w.heap.size + 1, 0, none⟩, 0, rfl, ⟨Row.nil _ _ _, by simp [zL]⟩, hB0.trans (hb.mono hB0.size)⟩

set_option maxRecDepth 100000 in
set_option maxHeartbeats 1000000 in
theorem rmembers_ok (n : Nat) (A : Option Addr) (c : Nat) (ws : List Nat) (w : World) (h : Words w w.heap.size A ws) (hok : Kb.Ok n ws) (hn : n ≤ 4096) :
    Calls Tryd.prog 36 #[.agg #[.int .i64 (n : Int), .slice A ws.length c]] w (MemRes (Kb.membersTo (Kb.bitAt ws) n) w) := by
  obtain ⟨i0, hi, hz0, hz1, hz2⟩ := info_parts infoInt
  have hl : ws.length ≤ 64 := by rw [hok.len]; unfold Kb.nw; omega
  have hv : Hid (Kb.validB n ws = true) := Lib.hid ((Kb.validB_iff h.lt).2 ⟨by omega, by omega, hok⟩)
  go_enter Tryd.func36, Tryd.ntmps36
  go_wp2_with fail
  have hinv : MeInv w ((w.alloc (.cells #[.int .i64 (n : Int), .slice A ws.length c] 24)).alloc (.cells #[] 3)) n c A ws.length (.slice (some ⟨w.heap.size + 1, 0, none⟩) 0 0) [] :=
    ⟨(Two.new_ _ _ _ _).alloc _, by simpa [icells] using World.ownsRow_made (e := 3) (size := 1) (base := w.heap.size + 1) (w.alloc (.cells #[.int .i64 (n : Int), .slice A ws.length c] 24)) #[] 0 (by simp) (by unfold maxLen; omega) rfl, by simp, (by repeat (first | exact Below.refl _ _ | refine bDrew ?_ _ | refine Below.drew ?_ | refine Below.alloc ?_ (by simp) _ | refine Below.setCell ?_ (by simp) _))⟩
  refine (rvalid_any n A c ws _ ((h.below hinv.bel).more (Nat.le_of_succ_le hinv.hz)) (by omega)).mono ?_
  rintro e w1 ⟨rfl, hb⟩
  rw [hv.out]
  have hinv1 := hinv.below hb
  clear hinv hb
  go_wp2_with fail
  go_loopw [3, 4] (fun v kv wr => ∃ k : Nat, k ≤ n ∧ kv = .int .i64 k ∧ MeInv w wr n c A ws.length v (Kb.membersTo (Kb.bitAt ws) k)) (fun _ kv _ => n - (intOf kv).toNat)
  case atStart => exact ⟨0, Nat.zero_le _, rfl, hinv1⟩
  case round =>
    obtain ⟨k, hk, rfl, hinv⟩ := hrel
    have c10 := hinv.t1.c0
    have c11 := hinv.t1.c1
    by_cases hlt : k < n
    · go_wp2_with fail
      refine (bit_any A c k ws _ _ (h.below hinv.bel) (by omega) (by omega)).mono ?_
      rintro e w2 ⟨rfl, m, rfl⟩
      have hinv2 : MeInv w (wr.drewN m) n c A ws.length u3 (Kb.membersTo (Kb.bitAt ws) k) := hinv.below ⟨rfl, rfl, rfl, Nat.le_refl _, fun _ _ => rfl⟩
      clear hinv c10 c11
      revert hinv2
      generalize wr.drewN m = wm
      intro hinv2
      have hs := Kb.membersTo_succ (Kb.bitAt ws) k
      have hle := Kb.membersTo_le (Kb.bitAt ws) k
      cases hf : Kb.bitAt ws k with
      | true =>
        rw [hf, if_pos rfl] at hs
        have hS := Lib.hid hs
        have hF := Lib.hid hf
        clear hs hf
        go_wp2_with (at_builtin; refine wpList_append_own _ rfl _ _ 25 rfl (w.heap.size + 1) 3 i0 (.int .i64 0) 1 8 Tryd.underlying25 hi hz0 hz1 hz2 rfl (by decide) _ _ _ rfl (hinv2.own.alloc _) ⟨wm.heap.size, 0, none⟩ 1 1 [.int .i64 (k : Int)] rfl rfl ?c1 ?c2 ?c3 ?c4 ?c5 ?_)
        case c1 => exact cell_one_new _ _ _
        case c2 => intro u hu; simp at hu; subst hu; rfl
        case c3 => unfold maxLen; omega
        case c4 => omega
        case c5 => have := hinv2.hz; simp; omega
        intro v' w3 hown' hgrow _
        have hinv3 : MeInv w w3 n c A ws.length v' (Kb.membersTo (Kb.bitAt ws) (k + 1)) := by
          rw [hS.out]
          exact MeInv.grown hinv2 hown' hgrow
        clear hown' hgrow hinv2
        go_wp2_with fail
        go_roundw
        case rel => exact ⟨k + 1, by omega, by go_num, hinv3⟩
        case measure => simp [intOf]; omega
      | false =>
        rw [hf, if_neg (by decide), List.append_nil] at hs
        have hinv3 : MeInv w wm n c A ws.length u3 (Kb.membersTo (Kb.bitAt ws) (k + 1)) := by rw [hs]; exact hinv2
        clear hs hf hinv2
        go_wp2_with fail
        go_roundw
        case rel => exact ⟨k + 1, by omega, by go_num, hinv3⟩
        case measure => simp [intOf]; omega
    · obtain rfl : k = n := by omega
      go_wp2_with fail
      go_ret
      obtain ⟨A', c', hv'⟩ := own_slice hinv.own
      have ho := hinv.own
      rw [hv'] at ho
      refine ⟨A', c', ?_, ints_of_own ho (fun x hx => by have := (Kb.membersTo_mem.1 hx).1; omega), hinv.bel⟩
      show Ending.returned _ = _
      rw [zL_length, ← hv']; rfl

theorem rmembers_any (sz : Int) (A : Option Addr) (c : Nat) (ws : List Nat) (w : World) (h : Words w w.heap.size A ws) (hl : ws.length ≤ 140737488351232) :
    Calls Tryd.prog 36 #[.agg #[.int .i64 sz, .slice A ws.length c]] w (MemRes (memL sz ws) w) := by
  cases hv : Kb.validB sz ws with
  | false => rw [memL_bad hv]; exact rmembers_bad sz A c ws w h hl hv
  | true =>
    obtain ⟨n, rfl⟩ := Int.eq_ofNat_of_zero_le ((Kb.validB_iff h.lt).1 hv).1
    have hok := ((Kb.validB_iff h.lt).1 hv).2.2
    rw [Int.toNat_natCast] at hok
    rw [memL_ok hv]
    exact rmembers_ok n A c ws w h hok (by have := ((Kb.validB_iff h.lt).1 hv).2.1; omega)

theorem nx_take {L : List Nat} {i : Int} {k : Nat} (hno : ∀ j, j < k → ¬ i < ((L.getD j 0 : Nat) : Int)) : (k < L.length → i < ((L.getD k 0 : Nat) : Int) → nx L i = ((L.getD k 0 : Nat) : Int)) ∧ (L.length ≤ k → nx L i = -1) := by
  have hg : ∀ j (hj : j < L.length), L.getD j 0 = L[j] := fun j hj => by rw [List.getD_eq_getElem?_getD, List.getElem?_eq_getElem hj]; rfl
  constructor
  · intro hk hi
    unfold nx
    rw [List.find?_eq_some_iff_getElem.2 ⟨by rw [hg k hk] at hi; simpa using hi, k, hk, rfl, fun j hj => by
      have := hno j hj
      rw [hg j (by omega)] at this
      simpa using this⟩]
    rw [hg k hk]
  · intro hk
    unfold nx
    rw [List.find?_eq_none.2 (fun x hx => by
      obtain ⟨j, hj, rfl⟩ := List.getElem_of_mem hx
      have := hno j (by omega)
      rw [hg j hj] at this
      simpa using this)]

set_option maxRecDepth 100000 in
set_option maxHeartbeats 1000000 in
theorem rnext_any (sz : Int) (A : Option Addr) (c : Nat) (ws : List Nat) (i : Int) (w : World) (h : Words w w.heap.size A ws) (hl : ws.length ≤ 140737488351232) :
    Calls Tryd.prog 41 #[.agg #[.int .i64 sz, .slice A ws.length c], .int .i64 i] w (IntRes (nx (memL sz ws) i) w) := by
  have hB0 : Below w.heap.size w (w.alloc (.cells #[.int .i64 sz, .slice A ws.length c] 24)) := (Below.refl _ _).alloc (Nat.le_refl _) _
  have hle := (memL_le sz ws).1
  obtain ⟨L, hL⟩ : ∃ L, Hid (memL sz ws = L) := ⟨_, Lib.hid rfl⟩
  rw [hL.out] at hle ⊢
  go_enter Tryd.func41, Tryd.ntmps41
  go_wp2_with fail
  refine (rmembers_any sz A c ws _ ((h.below hB0).more hB0.size) hl).mono ?_
  rintro e w1 ⟨A1, c1, rfl, hI, hb⟩
  rw [hL.out] at hI
  rw [hL.out]
  obtain ⟨zs, hzs⟩ : ∃ zs, Hid (zL L = zs) := ⟨_, Lib.hid rfl⟩
  have hzl : Hid (zs.length = L.length) := Lib.hid (by rw [← hzs.out]; exact zL_length L)
  rw [hzs.out] at hI
  rw [hzs.out]
  have hle' : zs.length ≤ 4096 := by rw [hzl.out]; exact hle
  have hB := hB0.trans (hb.mono hB0.size)
  clear hb hB0
  go_wp2_with fail
  go_loop [6] (fun kv => ∃ k : Nat, k ≤ zs.length ∧ kv = .int .i64 k ∧ Hid (∀ j, j < k → ¬ i < ((L.getD j 0 : Nat) : Int))) (fun kv => zs.length - (intOf kv).toNat)
  case atStart => exact ⟨0, Nat.zero_le _, rfl, Lib.hid (fun j hj => absurd hj (Nat.not_lt_zero _))⟩
  case round =>
    obtain ⟨k, hk, rfl, hno⟩ := hrel
    by_cases hlt : k < zs.length
    · have hkL : k < L.length := by rw [← hzl.out]; exact hlt
      obtain ⟨b, off, x, rfl, hbb, hc, hx⟩ := hI.at_ (k := k) hlt
      have hxL : Hid (x = ((L.getD k 0 : Nat) : Int)) := Lib.hid (by
        rw [hx.out.1, ← hzs.out]
        unfold zL
        rw [List.getD_eq_getElem?_getD, List.getElem?_map, List.getElem?_eq_getElem hkL, List.getD_eq_getElem?_getD, List.getElem?_eq_getElem hkL]; rfl)
      by_cases hxi : i < x
      · have hR : Hid (nx L i = x) := Lib.hid (by rw [hxL.out]; exact (nx_take hno.out).1 hkL (by rw [← hxL.out]; exact hxi))
        go_wp2_with fail
        go_ret
        exact ⟨ret_int hR.out.symm, hB⟩
      · go_wp2_with fail
        go_round
        case rel => exact ⟨k + 1, by omega, by go_num, Lib.hid (fun j hj => by
          by_cases e : j = k
          · rw [e, ← hxL.out]; exact hxi
          · exact hno.out j (by omega))⟩
        case measure => simp [intOf]; omega
    · have hR : Hid (nx L i = -1) := Lib.hid ((nx_take hno.out).2 (by rw [← hzl.out]; omega))
      go_wp2_with fail
      go_ret
      exact ⟨ret_int hR.out.symm, hB⟩

theorem zlist_eq_of {wa wb : List Int} (hl : wa.length = wb.length) (h : ∀ j, j < wa.length → wa.getD j 0 = wb.getD j 0) : (wa == wb) = true := by
  rw [beq_iff_eq]
  apply List.ext_getElem hl
  intro j h1 h2
  have := h j h1
  rw [List.getD_eq_getElem?_getD, List.getD_eq_getElem?_getD, List.getElem?_eq_getElem h1, List.getElem?_eq_getElem h2] at this
  exact this
theorem zlist_ne_of {wa wb : List Int} (j : Nat) (h : wa.getD j 0 ≠ wb.getD j 0) : (wa == wb) = false := by
  rw [beq_eq_false_iff_ne]; rintro rfl; exact h rfl
theorem zlist_ne_len {wa wb : List Int} (h : wa.length ≠ wb.length) : (wa == wb) = false := by
  rw [beq_eq_false_iff_ne]; rintro rfl; exact h rfl

set_option maxRecDepth 100000 in
set_option maxHeartbeats 400000 in
theorem seqi_any (A B : Option Addr) (ca cb : Nat) (wa wb : List Int) (w : World) (ha : Ints w w.heap.size A wa) (hb : Ints w w.heap.size B wb) (hla : wa.length ≤ 140737488351232) :
    Calls Tryd.prog 38 #[.slice A wa.length ca, .slice B wb.length cb] w fun e w' => e = .returned (.bool (wa == wb)) ∧ ∃ q, w' = w.drewN q := by
  by_cases hl : wa.length = wb.length
  · have hl1 : ((wa.length : Int) != (wb.length : Int)) = false := by simp; omega
    have hL := Lib.hid hl
    clear hl
    go_enter Tryd.func38, Tryd.ntmps38
    go_wp2_with fail
    go_loopw [13] (fun kv wr => ∃ k q : Nat, k ≤ wa.length ∧ kv = .int .i64 k ∧ wr = w.drewN q ∧ Hid (∀ j, j < k → wa.getD j 0 = wb.getD j 0)) (fun kv _ => wa.length - (intOf kv).toNat)
    case atStart => exact ⟨0, 0, Nat.zero_le _, rfl, rfl, Lib.hid (fun j h => by omega)⟩
    case round =>
      obtain ⟨k, q, hk, rfl, rfl, hno⟩ := hrel
      by_cases hlt : k < wa.length
      · obtain ⟨b, off, x, rfl, hbb, hc, hx⟩ := ha.at_ hlt
        obtain ⟨b2, off2, y, rfl, hbb2, hc2, hy⟩ := hb.at_ (k := k) (by rw [← hL.out]; exact hlt)
        have hlt2 : (k : Int) < (wb.length : Int) := by have := hL.out; omega
        by_cases hxy : x = y
        · have hxy1 : (x != y) = false := by simp; omega
          have hXY := Lib.hid hxy
          clear hxy
          go_wp2_with fail
          go_quiet (fail)
          go_wp2_with fail
          go_roundw
          case rel => exact ⟨k + 1, _, by omega, by go_num, rfl, Lib.hid (fun j h => by
            by_cases e : j = k
            · rw [e, ← hx.out.1, ← hy.out.1]; exact hXY.out
            · exact hno.out j (by omega))⟩
          case measure => simp [intOf]; omega
        · have hxy1 : (x != y) = true := by simp; omega
          have hXY := Lib.hid hxy
          clear hxy
          go_wp2_with fail
          go_quiet (fail)
          go_wp2_with fail
          go_ret
          exact ⟨ret_bool (zlist_ne_of k (by rw [← hx.out.1, ← hy.out.1]; exact hXY.out)).symm, _, World.drewN_drewN _ _ _⟩
      · go_wp2_with fail
        go_ret
        exact ⟨ret_bool (zlist_eq_of hL.out (fun j h => hno.out j (by omega))).symm, _, rfl⟩
  · have hl1 : ((wa.length : Int) != (wb.length : Int)) = true := by simp; omega
    have hL := Lib.hid hl
    clear hl
    go_enter Tryd.func38, Tryd.ntmps38
    go_wp2_with fail
    go_ret
    exact ⟨ret_bool (zlist_ne_len hL.out).symm, 0, rfl⟩
end Go.Proofs.YtmdekgbnpbanaaaDoor
