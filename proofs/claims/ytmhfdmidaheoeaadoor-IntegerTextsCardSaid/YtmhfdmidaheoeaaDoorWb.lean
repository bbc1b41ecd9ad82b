/- Walks: the reference's trim, made. -/
import Derived.Test.YtmhfdmidaheoeaaDoorWa
import Derived.Laws.AppendOwnNone
namespace Go.Proofs.YtmhfdmidaheoeaaDoor
open Go.RowKit
set_option linter.unusedVariables false

set_option maxRecDepth 100000 in
set_option maxHeartbeats 1000000 in
theorem rtrim_any (A : Option Addr) (c : Nat) (ws : List Nat) (w : World) (h : Sl w w.heap.size A c ws) (hl : ws.length ≤ 1000000000) :
    Calls Tryd.prog 30 #[.slice A ws.length c] w (MagRes (Kn.val ws) w) := by
  have hcap := h.cap
  obtain ⟨i0, hi, hz0, hz1, hz2⟩ := info_parts infoU32
  have hown : (w.alloc (.cells #[] 39)).ownsRow w.heap.size 39 1 (.slice (some ⟨w.heap.size, 0, none⟩) 0 0) 0 [] := World.ownsRow_made (e := 39) (size := 1) (base := w.heap.size) w #[] 0 (Nat.le_refl _) (by unfold maxLen; omega) rfl
  obtain ⟨m, hm⟩ : ∃ m : Nat, Hid (m = (Kn.dig (Kn.val ws)).length) := ⟨_, Lib.hid rfl⟩
  cases A with
  | none =>
    obtain rfl : c = 0 := h.nil0 rfl
    have hw0 : ws = [] := List.eq_nil_of_length_eq_zero (by omega)
    subst hw0
    go_enter Tryd.func30, Tryd.ntmps30
    go_wp2_with fail
    go_loop [3] (fun v => v = .int .i64 0) (fun v => 0)
    case atStart => exact rfl
    case round =>
      subst hrel
      go_wp2_with (at_builtin; refine wpList_append_own_none rfl _ _ 22 rfl w.heap.size 39 i0 1 Tryd.underlying22 hi _ _ _ rfl hown rfl ?_)
      go_ret
      refine ⟨some ⟨w.heap.size, 0, none⟩, 0, ?_, ?_, al1 _ _⟩
      · rw [Kn.val_nil, Kn.dig_zero]; rfl
      · rw [Kn.val_nil, Kn.dig_zero]; exact ⟨Nums.nil _ _ _ _, Kn.Wd.nil, Nat.zero_le _, fun e => by cases e⟩
  | some ad =>
    have hnews : Hid (∀ k, k ≤ ws.length → ∀ j u, (u32s (ws.take k))[j]? = some u → (w.alloc (.cells #[] 39)).cell? (ad.add j) = some u) := Lib.hid (fun k hk j u hu => by
      have hjk : j < k := by
        have := (List.getElem?_eq_some_iff.1 hu).1
        rw [u32s_len, List.length_take] at this; omega
      obtain ⟨b, off, e, hb, hc⟩ := h.nums.row.cells (by rw [List.length_map]; omega)
      injection e with e
      subst e
      rw [Go.WideShapes.add_plain, World.cell?_alloc_lt _ _ _ hb]
      unfold u32s at hu
      rw [List.map_take, List.getElem?_take_of_lt hjk] at hu
      exact hc j u hu)
    go_enter Tryd.func30, Tryd.ntmps30
    go_wp2_with fail
    go_loop [3] (fun v => ∃ k : Nat, k ≤ ws.length ∧ v = .int .i64 k ∧ Hid (Kn.val (ws.take k) = Kn.val ws)) (fun v => (intOf v).toNat)
    case atStart => exact ⟨ws.length, Nat.le_refl _, rfl, Lib.hid (by rw [List.take_length])⟩
    case round =>
      obtain ⟨k, hk, rfl, HV⟩ := hrel
      have fin : (k = 0 ∨ ws.getD (k - 1) 0 ≠ 0) → Hid (ws.take k = Kn.dig (Kn.val ws) ∧ k = (Kn.dig (Kn.val ws)).length) := fun he => Lib.hid (Kn.val_take_of_dig ws h.wd hk HV.out he)
      have FIN := Lib.hid fin
      clear fin
      have hlm := Lib.hid (show (u32s (ws.take k)).length = k * 1 by rw [u32s_len, List.length_take, Nat.mul_one]; omega)
      by_cases hk0 : k = 0
      · have HE := FIN.out (Or.inl hk0)
        subst hk0
        go_wp2_with fail
        go_ret
        refine ⟨some ⟨w.heap.size, 0, none⟩, 0, ?_, ?_, al1 _ _⟩
        · rw [← HE.out.2]; rfl
        · rw [← HE.out.1]; exact ⟨Nums.nil _ _ _ _, Kn.Wd.nil, Nat.zero_le _, fun e => by cases e⟩
      · obtain ⟨b, off, x, e, hb, hc, hx, hx2⟩ := h.word (k := k - 1) (by omega)
        injection e with e
        subst e
        have e1 : ((k : Int) - 1).toNat = k - 1 := by omega
        have e2 : (0 : Int) ≤ (k : Int) - 1 := by omega
        have hk1 : 0 < k := by omega
        clear hk0
        by_cases hx0 : x = 0
        · subst hx0
          have hv : Hid (Kn.val (ws.take (k - 1)) = Kn.val ws) := Lib.hid (by
            have h1 := Kn.val_take_step ws (k - 1)
            rw [← hx.out, Nat.mul_zero, Nat.sub_add_cancel hk1, HV.out] at h1
            omega)
          go_wp2_with fail
          go_round
          case rel => exact ⟨k - 1, by omega, by go_num, hv⟩
          case measure => simp [intOf]; omega
        · have hx1 : ((x : Int) == 0) = false := by simp; omega
          have HE := FIN.out (Or.inr (by rw [← hx.out]; exact hx0))
          clear hx0
          go_wp2_with (at_builtin; refine wpList_append_own _ rfl _ _ 22 rfl w.heap.size 39 i0 (.int .u32 0) 1 4 Tryd.underlying22 hi hz0 hz1 hz2 rfl (by decide) _ _ _ rfl hown ⟨b, off, none⟩ k c (u32s (ws.take k)) rfl hlm.out (hnews.out k hk) (u32s_one _) ?c3 ?c4 ?c5 ?_)
          case c3 => unfold maxLen; omega
          case c4 => omega
          intro v' w3 hown' hgrow _
          have b3 : Below w.heap.size w w3 := (al1 w (.cells #[] 39)).grown hgrow (by simp) (fun k e => by simp [Value.ownBlock] at e; omega)
          replace hown' : w3.ownsRow w.heap.size 39 1 v' k (u32s (ws.take k)) := by simpa using hown'
          obtain ⟨A', c', rfl, hc'⟩ := own_slice hown'
          have hS := Sl.of_own hown' (h.wd.take k) hc' (by rw [List.length_take]; omega)
          clear hown' hgrow hown
          go_wp2_with fail
          go_ret
          refine ⟨A', c', ?_, ?_, b3⟩
          · rw [← HE.out.2]; rfl
          · rw [← HE.out.1]; exact hS

set_option maxRecDepth 100000 in
set_option maxHeartbeats 400000 in
theorem made_any (neg : Bool) (A : Option Addr) (c : Nat) (ws : List Nat) (w : World) (h : Sl w w.heap.size A c ws) (hl : ws.length ≤ 1000000000) :
    Calls Tryd.prog 32 #[.bool neg, .slice A ws.length c] w (IntRes (Kn.iv neg ws) w) := by
  obtain ⟨z, hz⟩ : ∃ z : Int, z = Kn.iv neg ws := ⟨_, rfl⟩
  rw [← hz]
  have HZ := Lib.hid hz
  clear hz
  obtain ⟨N, hN⟩ : ∃ N : Nat, Hid (N = Kn.val ws) := ⟨_, Lib.hid rfl⟩
  have hz2 : Hid (decide (z < 0) = (neg && decide (0 < N))) := Lib.hid (by rw [HZ.out, Kn.iv_neg, hN.out])
  have hz3 : Hid (z.natAbs = N) := Lib.hid (by rw [HZ.out, Kn.iv_natAbs, hN.out])
  have hT : ∀ w : World, Sl w w.heap.size A c ws → Calls Tryd.prog 30 #[.slice A ws.length c] w (MagRes N w) := fun w h => by rw [hN.out]; exact rtrim_any A c ws w h hl
  have HT := Lib.hid hT
  clear hT
  go_enter Tryd.func32, Tryd.ntmps32
  go_wp2_with fail
  have hX := h.alloc (Nat.le_refl _) (.cells #[.bool false, .slice none 0 0] 24)
  refine (HT.out _ (hX.more (by simp))).mono ?_
  rintro e w2 ⟨A2, c2, rfl, hS, hb⟩
  have t : Two w2 w.heap.size (.bool false) (.slice none 0 0) := (Two.new_ _ _ _ _).below hb (by simp)
  have hB : Below w.heap.size w w2 := ((Below.refl _ _).alloc (Nat.le_refl _) _).trans (hb.mono (by simp))
  have d0 := t.c0
  have d1 := t.c1
  have f0 := t.fr 0
  have f1 := t.fr 1
  have hlen := Lib.hid (@Kn.dig_len_pos N)
  have R := Lib.hid (two_set w2 (.bool (decide (z < 0))) (.slice A2 (Kn.dig z.natAbs).length c2) d0 d1)
  have hfin : IntRes z w (.returned (.agg #[.bool (decide (z < 0)), .slice A2 (Kn.dig z.natAbs).length c2])) ((w2.setCell ⟨w.heap.size, 0, none⟩ (.bool (decide (z < 0)))).setCell ⟨w.heap.size, 1, none⟩ (.slice A2 (Kn.dig z.natAbs).length c2)) := by
    refine ⟨A2, c2, rfl, ?_, ?_⟩
    · rw [hz3.out]
      exact (hS.put t _ _).more (by simp [World.setCell])
    · exact (hB.setCell (p := ⟨w.heap.size, 0, none⟩) (Nat.le_refl _) _).setCell (p := ⟨w.heap.size, 1, none⟩) (Nat.le_refl _) _
  have FIN := Lib.hid hfin
  clear hfin
  rw [← hz3.out] at hS ⊢
  by_cases h0 : 0 < N
  · have hp : 0 < (Kn.dig z.natAbs).length := by rw [hz3.out]; exact hlen.out.2 h0
    have hzn : Hid (decide (z < 0) = neg) := Lib.hid (by rw [hz2.out, decide_eq_true h0, Bool.and_true])
    rw [hzn.out] at R FIN
    cases neg
    · go_wp2_with fail
      obtain ⟨r0, r1⟩ := R.out
      refine bodyPost_ret (v := .agg #[.bool false, .slice A2 (Kn.dig z.natAbs).length c2]) (by simp [results, Tryd.results32, go_sem, r0, r1]) rfl ?_
      exact FIN.out
    · go_wp2_with fail
      obtain ⟨r0, r1⟩ := R.out
      refine bodyPost_ret (v := .agg #[.bool true, .slice A2 (Kn.dig z.natAbs).length c2]) (by simp [results, Tryd.results32, go_sem, r0, r1]) rfl ?_
      exact FIN.out
  · have hp : ¬ 0 < (Kn.dig z.natAbs).length := by rw [hz3.out]; exact fun h => h0 (hlen.out.1 h)
    have hp2 : (Kn.dig z.natAbs).length ≤ 0 := by omega
    have hzn : Hid (decide (z < 0) = false) := Lib.hid (by rw [hz2.out, decide_eq_false h0, Bool.and_false])
    rw [hzn.out] at R FIN
    cases neg
    all_goals
      go_wp2_with fail
      obtain ⟨r0, r1⟩ := R.out
      refine bodyPost_ret (v := .agg #[.bool false, .slice A2 (Kn.dig z.natAbs).length c2]) (by simp [results, Tryd.results32, go_sem, r0, r1]) rfl ?_
      exact FIN.out
end Go.Proofs.YtmhfdmidaheoeaaDoor
