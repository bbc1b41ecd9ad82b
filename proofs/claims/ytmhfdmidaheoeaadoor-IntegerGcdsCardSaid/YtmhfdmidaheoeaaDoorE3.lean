/- Walks: the reference's Gcd. -/
import Derived.Test.YtmhfdmidaheoeaaDoorE1
import Derived.Test.YtmhfdmidaheoeaaDoorD2
import Derived.Test.YtmhfdmidaheoeaaDoorDz
namespace Go.Proofs.YtmhfdmidaheoeaaDoor
open Go.RowKit
set_option linter.unusedVariables false

theorem iv_false_dig (n : Nat) : Kn.iv false (Kn.dig n) = (n : Int) := by rw [Kn.iv_d]; rfl

set_option maxRecDepth 100000 in
set_option maxHeartbeats 2000000 in
theorem rgcd_any (nx : Bool) (A : Option Addr) (ca : Nat) (xs : List Nat) (ny : Bool) (B : Option Addr) (cb : Nat) (ys : List Nat) (w : World) (hx : Sl w w.heap.size A ca xs) (hy : Sl w w.heap.size B cb ys) (hlx : xs.length ≤ 99999) (hly : ys.length ≤ 99999) :
    Calls Tryd.prog 19 #[intV nx A xs.length ca, intV ny B ys.length cb] w (IntRes (Nat.gcd (Kn.val xs) (Kn.val ys) : Int) w) := by
  obtain ⟨G, hG⟩ : ∃ G, Hid (G = Nat.gcd (Kn.val xs) (Kn.val ys)) := ⟨_, Lib.hid rfl⟩
  rw [← hG.out]
  obtain ⟨z, hz⟩ : ∃ z : Int, Hid (z = (G : Int)) := ⟨_, Lib.hid rfl⟩
  rw [← hz.out]
  have hdx : (Kn.dig (Kn.val xs)).length ≤ 99999 := Nat.le_trans (Kn.dig_len_val hx.wd) hlx
  have hdy : (Kn.dig (Kn.val ys)).length ≤ 99999 := Nat.le_trans (Kn.dig_len_val hy.wd) hly
  have HTX := Lib.hid (fun (W : World) (h : Sl W W.heap.size A ca xs) => rtrim_any A ca xs W h (by omega))
  have HTY := Lib.hid (fun (W : World) (h : Sl W W.heap.size B cb ys) => rtrim_any B cb ys W h (by omega))
  unfold intV
  go_enter Tryd.func19, Tryd.ntmps19
  go_wp2_with fail
  have i := B3.new_ w nx A xs.length ca ny B ys.length cb 24
  revert i
  generalize ((w.alloc (.cells #[.bool nx, .slice A xs.length ca] 24)).alloc (.cells #[.bool ny, .slice B ys.length cb] 24)).alloc (.cells #[.bool false, .slice none 0 0] 24) = wx
  intro i
  replace i := i.drew
  have hX := (hx.below i.bel).more i.bel.size
  have hY := (hy.below i.bel).more i.bel.size
  go_region_held3 (fun w' => w'.cell? ⟨w.heap.size, 1, none⟩ = some (.slice A xs.length ca) ∧ w'.cell? ⟨w.heap.size + 1, 1, none⟩ = some (.slice B ys.length cb))
    (with_reducible exact ⟨i.t1.c1, i.t2.c1⟩)
    (first
      | (go_at_call 30; (with_reducible refine (HTX.out _ hX).mono ?_); rintro e w2 ⟨A1, c1, rfl, S1, hb⟩; replace i := i.below hb; replace hX := hX.nx hb; replace hY := hY.nx hb; clear hb)
      | (go_at_call 30; (with_reducible refine (HTY.out _ hY).mono ?_); rintro e w3 ⟨B1, d1, rfl, S2, hb⟩; replace i := i.below hb; replace hX := hX.nx hb; replace hY := hY.nx hb; replace S1 := S1.nx hb; clear hb))
  clear hX hY HTX HTY
  go_wp2_with fail
  go_loopw [5, 6] (fun av bv wr => ∃ N M A1 c1 B1 d1, av = .slice A1 (Kn.dig N).length c1 ∧ bv = .slice B1 (Kn.dig M).length d1 ∧ Sl wr wr.heap.size A1 c1 (Kn.dig N) ∧ Sl wr wr.heap.size B1 d1 (Kn.dig M) ∧ (Kn.dig N).length ≤ 99999 ∧ (Kn.dig M).length ≤ 99999 ∧ Hid (Nat.gcd N M = G) ∧ B3 w wr nx A xs.length ca ny B ys.length cb) (fun _ bv wr => rdVal wr bv)
  case atStart => exact ⟨_, _, A1, c1, B1, d1, rfl, rfl, S1, S2, hdx, hdy, Lib.hid hG.out.symm, i⟩
  case round =>
    clear i S1 S2 hdx hdy
    obtain ⟨N, M, A1, c1, B1, d1, rfl, rfl, S1, S2, hN, hM, HG, i⟩ := hrel
    rcases Nat.eq_zero_or_pos M with h0 | h0
    · subst h0
      have hNG : Hid (N = G) := Lib.hid (by rw [← HG.out, Nat.gcd_zero_right])
      have HMD := Lib.hid (fun (W : World) (h : Sl W W.heap.size A1 c1 (Kn.dig N)) => (by have := made_any false A1 c1 (Kn.dig N) W h (by omega); rwa [iv_false_dig, show (N : Int) = z by rw [hNG.out, hz.out]] at this : Calls Tryd.prog 32 #[.bool false, .slice A1 (Kn.dig N).length c1] W (IntRes z W)))
      rw [Kn.dig_zero]
      go_wp2_with fail
      refine (HMD.out _ S1).mono ?_
      rintro e w4 ⟨A4, c4, rfl, S4, hb⟩
      replace i := i.below hb
      clear hb
      have d20 := i.t3.c0
      have d21 := i.t3.c1
      have f20 := i.t3.fr 0
      have f21 := i.t3.fr 1
      have R := Lib.hid (two_set w4 (.bool (decide (z < 0))) (.slice A4 (Kn.dig z.natAbs).length c4) d20 d21)
      clear d20 d21 f20 f21
      have d20 := i.t3.c0
      have d21 := i.t3.c1
      have f20 := i.t3.fr 0
      have f21 := i.t3.fr 1
      go_wp2_with fail
      obtain ⟨r0, r1⟩ := R.out
      refine bodyPost_ret (v := .agg #[.bool (decide (z < 0)), .slice A4 (Kn.dig z.natAbs).length c4]) (by simp [results, Tryd.results19, go_sem, r0, r1]) rfl ?_
      exact i.fin S4
    · have hp := Kn.dig_len_pos.2 h0
      have g1 : decide ((0 : Int) < ((Kn.dig M).length : Int)) = true := by simp; omega
      obtain ⟨R, hR⟩ : ∃ R, Hid (R = N % M) := ⟨_, Lib.hid rfl⟩
      have hRM : R < M := by rw [hR.out]; exact Nat.mod_lt _ h0
      have hRL : (Kn.dig R).length ≤ 99999 := Nat.le_trans (Kn.dig_len_le (Nat.lt_trans hRM Kn.dig_lt)) hM
      have HG2 : Hid (Nat.gcd M R = G) := Lib.hid (by rw [← HG.out, hR.out, Nat.gcd_comm N M, Nat.gcd_rec M N, Nat.gcd_comm])
      go_wp2_with fail
      refine (rdivWords_any N M A1 c1 B1 d1 _ S1 S2 h0 (by omega) (by omega)).mono ?_
      rintro e w4 ⟨A4, c4, B4, d4, rfl, S4, S5, hb⟩
      rw [← hR.out] at S5 ⊢
      have hms : rdVal w4 (.slice B4 (Kn.dig R).length d4) < rdVal wr (.slice B1 (Kn.dig M).length d1) := by rw [rdVal_dig S5, rdVal_dig S2]; exact hRM
      have HMS := Lib.hid hms
      replace S2 := S2.nx hb
      replace i := i.below hb
      clear hb hms
      go_wp2_with fail
      go_roundw
      case rel => exact ⟨M, R, B1, d1, B4, d4, rfl, rfl, S2, S5, hM, hRL, HG2, i⟩
      case measure => exact HMS.out
end Go.Proofs.YtmhfdmidaheoeaaDoor
