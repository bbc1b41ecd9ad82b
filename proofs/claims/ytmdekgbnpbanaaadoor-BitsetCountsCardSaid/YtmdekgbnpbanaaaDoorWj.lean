/- Walks: Has, the reference's Has and Put. -/
import Derived.Test.YtmdekgbnpbanaaaDoorWi
namespace Go.Proofs.YtmdekgbnpbanaaaDoor
open Go.RowKit
set_option linter.unusedVariables false

/-- a member? -/
def hasB (sz : Int) (ws : List Nat) (i : Int) : Bool := Kb.validB sz ws && decide (0 ≤ i) && decide (i < sz) && Kb.bitAt ws i.toNat

theorem hasB_v {sz i : Int} {ws : List Nat} (h : Kb.validB sz ws = false) : hasB sz ws i = false := by unfold hasB; rw [h]; rfl
theorem hasB_r {sz i : Int} {ws : List Nat} (h : ¬ (0 ≤ i ∧ i < sz)) : hasB sz ws i = false := by
  unfold hasB
  by_cases h0 : 0 ≤ i
  · have : ¬ i < sz := fun h1 => h ⟨h0, h1⟩
    simp [this]
  · simp [h0]
theorem hasB_in {n i : Nat} {ws : List Nat} (hv : Kb.validB n ws = true) (h : i < n) : hasB n ws i = Kb.bitAt ws i := by
  unfold hasB; rw [hv]; simp [h]

theorem shr_bit (x k : Nat) (hx : x < 2 ^ 64) : (bits BinOp.and IntKind.u64 ((x : Int) / 2 ^ k) 1 == 1) = x.testBit k := by
  have e : ((x : Int) / 2 ^ k) = ((x / 2 ^ k : Nat) : Int) := by rw [Int.natCast_ediv, Int.natCast_pow]; rfl
  have hle : x / 2 ^ k ≤ x := Nat.div_le_self _ _
  rw [e, show (1 : Int) = ((1 : Nat) : Int) from rfl, u64_and_nat _ 1 (Nat.lt_of_le_of_lt hle hx) (by decide), nat_mask1, ← Kb.testBit_shift, Bool.eq_iff_iff]
  simp only [beq_iff_eq]
  omega

theorem box1 (w : World) (x y : Value) (T : TypeId) : Two (w.alloc (.cells #[x, y] T)) w.heap.size x y := Two.new_ _ _ _ _

set_option maxRecDepth 100000 in
set_option maxHeartbeats 400000 in
theorem has_any (sz : Int) (A : Option Addr) (c : Nat) (ws : List Nat) (i : Int) (w : World) (h : Words w w.heap.size A ws) (hl : ws.length ≤ 140737488351232) :
    Calls Tryd.prog 24 #[setV sz A ws.length c, .int .i64 i] w fun e w' => e = .returned (.bool (hasB sz ws i)) ∧ Below w.heap.size w w' := by
  unfold setV
  have hB0 : Below w.heap.size w (w.alloc (.cells #[.int .i64 sz, .slice A ws.length c] 24)) := (Below.refl _ _).alloc (Nat.le_refl _) _
  cases hv : Kb.validB sz ws with
  | false =>
    have hR : Hid (hasB sz ws i = false) := Lib.hid (hasB_v hv)
    have hV := Lib.hid hv
    clear hv
    go_enter Tryd.func24, Tryd.ntmps24
    go_wp2_with fail
    refine (bvalid_any sz A c ws _ ((h.below hB0).more hB0.size) hl).mono ?_
    rintro e w1 ⟨rfl, hb⟩
    rw [hV.out]
    go_wp2_with fail
    go_ret
    exact ⟨ret_bool hR.out.symm, hB0.trans (hb.mono hB0.size)⟩
  | true =>
    obtain ⟨n, rfl⟩ := Int.eq_ofNat_of_zero_le ((Kb.validB_iff h.lt).1 hv).1
    have hok := ((Kb.validB_iff h.lt).1 hv).2.2
    have hn : n ≤ 4096 := by have := ((Kb.validB_iff h.lt).1 hv).2.1; omega
    rw [Int.toNat_natCast] at hok
    by_cases h0 : 0 ≤ i
    · by_cases h1 : i < (n : Int)
      · obtain ⟨j, rfl⟩ := Int.eq_ofNat_of_zero_le h0
        have hR : Hid (hasB n ws j = Kb.bitAt ws j) := Lib.hid (hasB_in hv (by omega))
        have hV := Lib.hid hv
        have hj : j / 64 < ws.length := by rw [hok.len]; unfold Kb.nw; omega
        obtain ⟨b, off, x, rfl, hbb, hc, hx⟩ := h.at_ hj
        have hbit : Hid ((bits BinOp.and IntKind.u64 ((x : Int) / 2 ^ (j % 64)) 1 == 1) = Kb.bitAt ws j) := Lib.hid (by rw [shr_bit x _ hx.out.2, hx.out.1]; rfl)
        have e3 : ((j : Int) / 64).toNat = j / 64 := by omega
        have e4 : (j : Int) / 64 < (ws.length : Int) := by omega
        clear hv
        go_enter Tryd.func24, Tryd.ntmps24
        go_wp2_with fail
        refine (bvalid_any n _ c ws _ ((h.below hB0).more hB0.size) hl).mono ?_
        rintro e w1 ⟨rfl, hb⟩
        rw [hV.out]
        have t1 := (box1 w (.int .i64 (n : Int)) (.slice (some ⟨b, off, none⟩) ws.length c) 24).below hb (by simp)
        have hB := hB0.trans (hb.mono hB0.size)
        have c10 := t1.c0
        have c11 := t1.c1
        have hc1 := (hB.cell (p := ⟨b, off + j / 64, none⟩) hbb).trans hc
        go_wp2_with fail
        go_ret
        exact ⟨ret_bool (hbit.out.trans hR.out.symm), hB⟩
      · have hR : Hid (hasB n ws i = false) := Lib.hid (hasB_r (fun h => h1 h.2))
        have hV := Lib.hid hv
        clear hv
        go_enter Tryd.func24, Tryd.ntmps24
        go_wp2_with fail
        refine (bvalid_any n A c ws _ ((h.below hB0).more hB0.size) hl).mono ?_
        rintro e w1 ⟨rfl, hb⟩
        rw [hV.out]
        have t1 := (box1 w (.int .i64 (n : Int)) (.slice A ws.length c) 24).below hb (by simp)
        have hB := hB0.trans (hb.mono hB0.size)
        have c10 := t1.c0
        go_wp2_with fail
        go_ret
        exact ⟨ret_bool hR.out.symm, hB⟩
    · have hR : Hid (hasB n ws i = false) := Lib.hid (hasB_r (fun h => h0 h.1))
      have hV := Lib.hid hv
      clear hv
      go_enter Tryd.func24, Tryd.ntmps24
      go_wp2_with fail
      refine (bvalid_any n A c ws _ ((h.below hB0).more hB0.size) hl).mono ?_
      rintro e w1 ⟨rfl, hb⟩
      rw [hV.out]
      go_wp2_with fail
      go_ret
      exact ⟨ret_bool hR.out.symm, hB0.trans (hb.mono hB0.size)⟩

set_option maxRecDepth 100000 in
set_option maxHeartbeats 400000 in
theorem rhas_any (sz : Int) (A : Option Addr) (c : Nat) (ws : List Nat) (i : Int) (w : World) (h : Words w w.heap.size A ws) (hl : ws.length ≤ 140737488351232) :
    Calls Tryd.prog 25 #[setV sz A ws.length c, .int .i64 i] w fun e w' => e = .returned (.bool (hasB sz ws i)) ∧ Below w.heap.size w w' := by
  unfold setV
  have hB0 : Below w.heap.size w (w.alloc (.cells #[.int .i64 sz, .slice A ws.length c] 24)) := (Below.refl _ _).alloc (Nat.le_refl _) _
  cases hv : Kb.validB sz ws with
  | false =>
    have hR : Hid (hasB sz ws i = false) := Lib.hid (hasB_v hv)
    have hV := Lib.hid hv
    clear hv
    go_enter Tryd.func25, Tryd.ntmps25
    go_wp2_with fail
    refine (rvalid_any sz A c ws _ ((h.below hB0).more hB0.size) hl).mono ?_
    rintro e w1 ⟨rfl, hb⟩
    rw [hV.out]
    go_wp2_with fail
    go_ret
    exact ⟨ret_bool hR.out.symm, hB0.trans (hb.mono hB0.size)⟩
  | true =>
    obtain ⟨n, rfl⟩ := Int.eq_ofNat_of_zero_le ((Kb.validB_iff h.lt).1 hv).1
    have hok := ((Kb.validB_iff h.lt).1 hv).2.2
    have hn : n ≤ 4096 := by have := ((Kb.validB_iff h.lt).1 hv).2.1; omega
    rw [Int.toNat_natCast] at hok
    have hl64 : ws.length ≤ 64 := by rw [hok.len]; unfold Kb.nw; omega
    by_cases h0 : 0 ≤ i
    · by_cases h1 : i < (n : Int)
      · obtain ⟨j, rfl⟩ := Int.eq_ofNat_of_zero_le h0
        have hR : Hid (hasB n ws j = Kb.bitAt ws j) := Lib.hid (hasB_in hv (by omega))
        have hV := Lib.hid hv
        clear hv
        go_enter Tryd.func25, Tryd.ntmps25
        go_wp2_with fail
        refine (rvalid_any n _ c ws _ ((h.below hB0).more hB0.size) hl).mono ?_
        rintro e w1 ⟨rfl, hb⟩
        rw [hV.out]
        have t1 := (box1 w (.int .i64 (n : Int)) (.slice A ws.length c) 24).below hb (by simp)
        have hB := hB0.trans (hb.mono hB0.size)
        have c10 := t1.c0
        have c11 := t1.c1
        go_wp2_with fail
        refine (bit_any A c j ws _ _ (h.below hB) (by omega) (by omega)).mono ?_
        rintro e w2 ⟨rfl, m, rfl⟩
        go_wp2_with fail
        go_ret
        exact ⟨ret_bool hR.out.symm, bDrew hB _⟩
      · have hR : Hid (hasB n ws i = false) := Lib.hid (hasB_r (fun h => h1 h.2))
        have hV := Lib.hid hv
        clear hv
        go_enter Tryd.func25, Tryd.ntmps25
        go_wp2_with fail
        refine (rvalid_any n A c ws _ ((h.below hB0).more hB0.size) hl).mono ?_
        rintro e w1 ⟨rfl, hb⟩
        rw [hV.out]
        have t1 := (box1 w (.int .i64 (n : Int)) (.slice A ws.length c) 24).below hb (by simp)
        have hB := hB0.trans (hb.mono hB0.size)
        have c10 := t1.c0
        go_wp2_with fail
        go_ret
        exact ⟨ret_bool hR.out.symm, hB⟩
    · have hR : Hid (hasB n ws i = false) := Lib.hid (hasB_r (fun h => h0 h.1))
      have hV := Lib.hid hv
      clear hv
      go_enter Tryd.func25, Tryd.ntmps25
      go_wp2_with fail
      refine (rvalid_any n A c ws _ ((h.below hB0).more hB0.size) hl).mono ?_
      rintro e w1 ⟨rfl, hb⟩
      rw [hV.out]
      go_wp2_with fail
      go_ret
      exact ⟨ret_bool hR.out.symm, hB0.trans (hb.mono hB0.size)⟩

theorem bcells_set (f : Nat → Bool) (n i : Nat) (m : Bool) : (bcells f n).set i (.bool m) = bcells (fun j => if j = i then m else f j) n := by
  apply List.ext_getElem?
  intro k
  unfold bcells
  rw [List.getElem?_set, List.getElem?_map, List.getElem?_map]
  by_cases h : i = k
  · subst h
    rw [if_pos rfl]
    by_cases hk : i < n
    · rw [if_pos (by simpa using hk), List.getElem?_range hk]; simp
    · rw [if_neg (by simpa using hk), List.getElem?_eq_none (by simpa using hk)]; rfl
  · rw [if_neg h]
    by_cases hk : k < n
    · rw [List.getElem?_range hk]; simp [Ne.symm h]
    · rw [List.getElem?_eq_none (by simpa using hk)]; rfl

/-- words do not lie in a block that holds an int and a slice -/
theorem Words.put_two {w : World} {B b n c : Nat} {A a : Option Addr} {ws : List Nat} {x : Int} (h : Words w B A ws) (t : Two w b (.int .i64 x) (.slice a n c)) (u v : Value) : Words ((w.setCell ⟨b, 0, none⟩ u).setCell ⟨b, 1, none⟩ v) B A ws := by
  refine ⟨⟨fun hp => ?_⟩, h.lt⟩
  obtain ⟨b', off, hA, hb, hc⟩ := h.row.cells hp
  refine ⟨b', off, hA, hb, fun k u' hu => ?_⟩
  have h1 := hc k u' hu
  by_cases e : b' = b
  · subst e
    exfalso
    obtain ⟨T, hT⟩ := t.blk
    rw [cell_of_row w b' (off + k) _ _ _ hT] at h1
    rw [List.getElem?_map] at hu
    cases hw : ws[k]? with
    | none => rw [hw] at hu; cases hu
    | some y =>
      rw [hw] at hu
      simp only [Option.map_some, Option.some.injEq] at hu
      subst hu
      match hk : off + k with
      | 0 => rw [hk] at h1; simp at h1
      | 1 => rw [hk] at h1; simp at h1
      | m + 2 => rw [hk] at h1; simp at h1
  · rw [World.cell?_setCell_other' _ _ _ _ e, World.cell?_setCell_other' _ _ _ _ e]; exact h1

/-- a result of Put that is no set -/
theorem put_bad (sa : Int) (A : Option Addr) (c : Nat) (ws : List Nat) (i : Int) (m : Bool) (w : World) (h : Words w w.heap.size A ws) (hl : ws.length ≤ 140737488351232) (hv : Hid (Kb.validB sa ws = false)) :
    Calls Tryd.prog 23 #[setV sa A ws.length c, .int .i64 i, .bool m] w (ErrRes 1 w) := by
  unfold setV
  go_enter Tryd.func23, Tryd.ntmps23
  go_wp2_with fail
  have i1 := WiInv.new_ w (.int .i64 sa) (.slice A ws.length c) (.int .i64 0) (.slice none 0 0) 24 24
  refine (rvalid_any sa A c ws _ ((h.below i1.bel).more i1.bel.size) hl).mono ?_
  rintro e w1 ⟨rfl, hb1⟩
  have i2 := i1.below hb1
  rw [hv.out]
  have d10 := i2.t2.c0
  have d11 := i2.t2.c1
  have f10 := i2.t2.fr 0
  have f11 := i2.t2.fr 1
  go_wp2_with fail
  obtain ⟨r0, r1⟩ := two_set w1 (.int .i64 0) (.slice none 0 0) d10 d11
  refine bodyPost_ret (v := .tuple #[setV 0 none 0 0, .int .i64 1]) (by simp [results, Tryd.results23, go_sem, r0, r1, setV]) rfl ?_
  exact ⟨rfl, (i2.bel.setCell (p := ⟨w.heap.size + 1, 0, none⟩) (by simp) _).setCell (p := ⟨w.heap.size + 1, 1, none⟩) (by simp) _⟩

set_option maxRecDepth 100000 in
theorem put_out (n : Nat) (A : Option Addr) (c : Nat) (ws : List Nat) (i : Int) (m : Bool) (w : World) (h : Words w w.heap.size A ws) (hl : ws.length ≤ 140737488351232) (hv : Hid (Kb.validB n ws = true)) (hi : ¬ (0 ≤ i ∧ i < (n : Int))) :
    Calls Tryd.prog 23 #[setV n A ws.length c, .int .i64 i, .bool m] w (ErrRes 3 w) := by
  unfold setV
  by_cases h0 : i < 0
  · clear hi
    go_enter Tryd.func23, Tryd.ntmps23
    go_wp2_with fail
    have i1 := WiInv.new_ w (.int .i64 (n : Int)) (.slice A ws.length c) (.int .i64 0) (.slice none 0 0) 24 24
    refine (rvalid_any n A c ws _ ((h.below i1.bel).more i1.bel.size) hl).mono ?_
    rintro e w1 ⟨rfl, hb1⟩
    have i2 := i1.below hb1
    rw [hv.out]
    have c10 := i2.t1.c0
    have d10 := i2.t2.c0
    have d11 := i2.t2.c1
    have f10 := i2.t2.fr 0
    have f11 := i2.t2.fr 1
    go_wp2_with fail
    obtain ⟨r0, r1⟩ := two_set w1 (.int .i64 0) (.slice none 0 0) d10 d11
    refine bodyPost_ret (v := .tuple #[setV 0 none 0 0, .int .i64 3]) (by simp [results, Tryd.results23, go_sem, r0, r1, setV]) rfl ?_
    exact ⟨rfl, (i2.bel.setCell (p := ⟨w.heap.size + 1, 0, none⟩) (by simp) _).setCell (p := ⟨w.heap.size + 1, 1, none⟩) (by simp) _⟩
  · have h1 : (n : Int) ≤ i := by omega
    clear hi
    go_enter Tryd.func23, Tryd.ntmps23
    go_wp2_with fail
    have i1 := WiInv.new_ w (.int .i64 (n : Int)) (.slice A ws.length c) (.int .i64 0) (.slice none 0 0) 24 24
    refine (rvalid_any n A c ws _ ((h.below i1.bel).more i1.bel.size) hl).mono ?_
    rintro e w1 ⟨rfl, hb1⟩
    have i2 := i1.below hb1
    rw [hv.out]
    have c10 := i2.t1.c0
    have d10 := i2.t2.c0
    have d11 := i2.t2.c1
    have f10 := i2.t2.fr 0
    have f11 := i2.t2.fr 1
    go_wp2_with fail
    obtain ⟨r0, r1⟩ := two_set w1 (.int .i64 0) (.slice none 0 0) d10 d11
    refine bodyPost_ret (v := .tuple #[setV 0 none 0 0, .int .i64 3]) (by simp [results, Tryd.results23, go_sem, r0, r1, setV]) rfl ?_
    exact ⟨rfl, (i2.bel.setCell (p := ⟨w.heap.size + 1, 0, none⟩) (by simp) _).setCell (p := ⟨w.heap.size + 1, 1, none⟩) (by simp) _⟩

set_option maxRecDepth 100000 in
set_option maxHeartbeats 1000000 in
theorem put_ok (n : Nat) (A : Option Addr) (c : Nat) (ws : List Nat) (i : Nat) (m : Bool) (w : World) (h : Words w w.heap.size A ws) (hok : Kb.Ok n ws) (hn : n ≤ 4096) (hi : i < n) :
    Calls Tryd.prog 23 #[setV n A ws.length c, .int .i64 (i : Int), .bool m] w (SetRes n (Kb.mkWords n (fun j => if j = i then m else Kb.bitAt ws j)) w) := by
  have hl : ws.length ≤ 64 := by rw [hok.len]; unfold Kb.nw; omega
  have hv : Hid (Kb.validB n ws = true) := Lib.hid ((Kb.validB_iff h.lt).2 ⟨by omega, by omega, hok⟩)
  have hi1 : ¬ (n : Int) ≤ (i : Int) := by omega
  unfold setV
  go_enter Tryd.func23, Tryd.ntmps23
  go_wp2_with fail
  have i1 := WiInv.new_ w (.int .i64 (n : Int)) (.slice A ws.length c) (.int .i64 0) (.slice none 0 0) 24 24
  refine (rvalid_any n A c ws _ ((h.below i1.bel).more i1.bel.size) (by omega)).mono ?_
  rintro e w1 ⟨rfl, hb1⟩
  have i2 := i1.below hb1
  rw [hv.out]
  clear i1 hb1
  have c10 := i2.t1.c0
  have c11 := i2.t1.c1
  go_wp2_with fail
  refine (flags_ok n A c ws w1 ((h.below i2.bel).more i2.bel.size) hl hn).mono ?_
  rintro e w2 ⟨A', c', rfl, hown, hb2⟩
  have i3 := i2.below hb2
  obtain ⟨g, cap, e1, hg, hgh⟩ : ∃ g cap, Value.slice A' n c' = .slice (some ⟨g, 0, none⟩) n cap ∧ w1.heap.size + 1 ≤ g ∧ g < w2.heap.size := by
    rcases hown.2 with ⟨_, h0⟩ | ⟨g, cap, cur, e1, hb, hgg, _⟩
    · omega
    · exact ⟨g, cap, e1, hb, (Array.getElem?_eq_some_iff.1 hgg).1⟩
  rw [e1] at hown
  injection e1 with e1 _ e2
  subst e1 e2
  have hcell := hown.cellAt i (by omega)
  have hcx : w2.cell? ⟨g, i, none⟩ = some (.bool (Kb.bitAt ws i)) := by
    rw [hcell]; unfold bcells; rw [List.getElem?_map, List.getElem?_range hi]; rfl
  have hfx := hown.frozenAt i
  have hst := (hown.stored i (.bool m)).1
  rw [bcells_set] at hst
  have hgb := i2.bel.size
  have i4 : WiInv w (w2.setCell ⟨g, i, none⟩ (.bool m)) (.int .i64 (n : Int)) (.slice A ws.length c) (.int .i64 0) (.slice none 0 0) :=
    ⟨i3.t1.far (by have := i2.t1.lt; simp; omega) _, i3.t2.far (by have := i2.t2.lt; simp; omega) _, i3.bel.setCell (by simp; omega) _⟩
  clear c10 c11 hcell i2 hb2 hown i3
  go_wp2_with fail
  refine (make_ok n (some ⟨g, 0, none⟩) c' (fun j => if j = i then m else Kb.bitAt ws j) _ (Row.of_own hst) hn).mono ?_
  rintro e w3 ⟨A3, c3, rfl, hW3, hb3⟩
  have i5 := i4.below hb3
  have d10 := i5.t2.c0
  have d11 := i5.t2.c1
  have f10 := i5.t2.fr 0
  have f11 := i5.t2.fr 1
  unfold setV
  go_wp2_with fail
  obtain ⟨r0, r1⟩ := two_set w3 (.int .i64 (n : Int)) (.slice A3 (Kb.mkWords n (fun j => if j = i then m else Kb.bitAt ws j)).length c3) d10 d11
  refine bodyPost_ret (v := .tuple #[setV n A3 (Kb.mkWords n (fun j => if j = i then m else Kb.bitAt ws j)).length c3, .int .i64 0]) (by simp [results, Tryd.results23, go_sem, r0, r1, setV]) rfl ?_
  refine ⟨A3, c3, rfl, (hW3.put_two i5.t2 _ _).more (by simp [World.setCell]), (i5.bel.setCell (p := ⟨w.heap.size + 1, 0, none⟩) (by simp) _).setCell (p := ⟨w.heap.size + 1, 1, none⟩) (by simp) _⟩
end Go.Proofs.YtmdekgbnpbanaaaDoor
