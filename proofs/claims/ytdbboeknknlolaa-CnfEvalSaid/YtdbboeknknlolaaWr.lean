/- True for any number of variables; ContainsFunc with Eval's closure. -/
import Derived.Test.YtdbboeknknlolaaWq
import Derived.Test.YtdbboeknknlolaaWk
namespace Go.Proofs.Ytdbboeknknlolaa
open Go.RowKit Go.Sort
set_option linter.unusedVariables false

theorem isLit_iff {v x : Int} (h : isLit v x = true) : x ≠ 0 ∧ (x.natAbs : Int) ≤ v := by
  unfold isLit at h
  rwa [Bool.and_eq_true, decide_eq_true_eq, decide_eq_true_eq] at h
theorem wiL_mem {v : Int} {L : List (List Int)} (h : wiL v L = true) {z : List Int} (hz : z ∈ L) {x : Int} (hx : x ∈ z) : isLit v x = true :=
  List.all_eq_true.1 (List.all_eq_true.1 h z hz) x hx
theorem bs_at {w : World} {B : Nat} {D : Option Addr} {bs : List Bool} (h : Row w B D (bvals bs)) {m : Nat} (hm : m < bs.length) : ∃ b o u, D = some ⟨b, o, none⟩ ∧ w.cell? ⟨b, o + m, none⟩ = some (.bool u) ∧ bs.getD m false = u := by
  have hl : (bvals bs).length = bs.length := by simp [bvals]
  obtain ⟨b, o, e, _, hc⟩ := h.cells (by omega)
  have e2 : bs[m]? = some bs[m] := List.getElem?_eq_getElem hm
  exact ⟨b, o, bs[m], e, hc m _ (by unfold bvals; rw [List.getElem?_map, e2]; rfl), by rw [List.getD_eq_getElem?_getD, e2]; rfl⟩
set_option maxRecDepth 100000 in
set_option maxHeartbeats 2000000 in
theorem true_gen (cs : List Cl) (A : Option Addr) (ca : Nat) (D : Option Addr) (ic : Nat) (bs : List Bool) (w : World) (hx : LL w w.heap.size A cs) (hp : wiL bs.length (ct cs) = true) (hlx : cs.length ≤ 1000000) (hcx : ∀ c ∈ cs, c.zs.length ≤ 1000000) (hb : Row w w.heap.size D (bvals bs)) (hN : bs.length ≤ 20000) :
    Calls Try.prog 20 #[.slice A cs.length ca, .slice D bs.length ic] w fun e w' => e = .returned (.bool (trL bs (ct cs))) ∧ w = w' := by
  have HX := Lib.hid hx
  have HCX := Lib.hid hcx
  have HB := Lib.hid (fun m (hm : m < bs.length) => bs_at hb hm)
  have HPL := Lib.hid (fun c (hc : c ∈ cs) x (h : x ∈ c.zs) => isLit_iff (wiL_mem hp (List.mem_map_of_mem hc) h))
  obtain ⟨N, hNe⟩ : ∃ N, Hid (bs.length = N) := ⟨_, Lib.hid rfl⟩
  rw [hNe.out] at HB HPL hN ⊢
  obtain ⟨n, hn⟩ : ∃ n, Hid (cs.length = n) := ⟨_, Lib.hid rfl⟩
  obtain ⟨e, he⟩ : ∃ e, Hid (trL bs (ct cs) = e) := ⟨_, Lib.hid rfl⟩
  have H0 : Hid (e = trL bs ((ct cs).drop 0)) := Lib.hid (by rw [← he.out]; rfl)
  rw [hn.out] at hlx ⊢
  rw [he.out]
  clear hx he hcx hb hp
  go_enter Try.func20, Try.ntmps20
  go_wp2_with fail
  go_loop [6, 7, 9, 12] (fun v6 v7 v9 iv => ∃ i : Nat, i ≤ n ∧ iv = .int .i64 i ∧ Hid (e = trL bs ((ct cs).drop i))) (fun _ _ _ iv => n - (intOf iv).toNat)
  case atStart => exact ⟨0, Nat.zero_le _, rfl, H0⟩
  case round =>
    clear H0
    obtain ⟨i, hi, rfl, H1⟩ := hrel
    by_cases hlt : i < n
    · obtain ⟨b, off, c, rfl, hb, c0, hci, zc⟩ := HX.out.at_ (show i < cs.length by rw [hn.out]; exact hlt)
      have hcl := HCX.out c (List.mem_of_getElem? hci)
      have HPC := Lib.hid (HPL.out c (List.mem_of_getElem? hci))
      obtain ⟨d, hd⟩ : ∃ d, Hid (c.zs.length = d) := ⟨_, Lib.hid rfl⟩
      rw [hd.out] at c0 hcl
      have HZ := Lib.hid zc
      obtain ⟨R, hR⟩ : ∃ R, Hid (trL bs ((ct cs).drop (i + 1)) = R) := ⟨_, Lib.hid rfl⟩
      have H2 : Hid (e = ((false || (c.zs.drop 0).any (litB bs)) && R)) := Lib.hid (by
        rw [H1.out, drop_cons_ (l := ct cs) (i := i) (x := c.zs) (by rw [List.getElem?_map, hci]; rfl), ← hR.out]; rfl)
      clear H1 hci zc
      go_wp2_with fail
      clear c0
      go_loop [7, 9, 18] (fun v7 v9 jv => ∃ (j : Nat) (o : Bool), j ≤ d ∧ jv = .int .i64 j ∧ v7 = .bool o ∧ Hid (e = ((o || (c.zs.drop j).any (litB bs)) && R))) (fun _ _ jv => d - (intOf jv).toNat)
      case atStart => exact ⟨0, false, Nat.zero_le _, rfl, rfl, H2⟩
      case round =>
        clear H2
        obtain ⟨j, o, hj, rfl, rfl, H3⟩ := hrel
        by_cases hjm : j < d
        · obtain ⟨b2, off2, x, hax, hb2, c1, hxi, rx⟩ := HZ.out.at_ (show j < c.zs.length by rw [hd.out]; exact hjm)
          rw [hax]
          have hpx := HPC.out x (List.mem_of_getElem? hxi)
          have H4 : Hid (e = (((o || litB bs x) || (c.zs.drop (j + 1)).any (litB bs)) && R)) := Lib.hid (by
            rw [H3.out, drop_cons_ hxi, List.any_cons, Bool.or_assoc])
          clear H3 hxi rx hax
          cases o with
          | true =>
            have H5 : Hid (e = ((true || (c.zs.drop (j + 1)).any (litB bs)) && R)) := Lib.hid (by rw [H4.out]; rfl)
            clear H4 hpx
            go_wp2_with fail
            go_round
            case rel => exact ⟨j + 1, true, by omega, by go_num, rfl, H5⟩
            case measure => simp [intOf]; omega
          | false =>
            obtain ⟨hx0, hx6⟩ := hpx
            by_cases hpos : 0 < x
            · obtain ⟨m, hm⟩ : ∃ m : Nat, x = (m : Int) + 1 := ⟨(x - 1).toNat, by omega⟩
              have hm6 : m < N := by omega
              obtain ⟨ib, io, u, rfl, cu, hu⟩ := HB.out m hm6
              have e1 : IntKind.i64.wrap (x - 1) = (m : Int) := by rw [IntWalk.i64_in _ (by omega)]; omega
              have hneg : ¬ x < 0 := by omega
              have H5 : Hid (e = ((u || (c.zs.drop (j + 1)).any (litB bs)) && R)) := Lib.hid (by
                rw [H4.out]
                have : litB bs x = u := by unfold litB; rw [if_pos hpos, show (x - 1).toNat = m by omega]; exact hu
                rw [this]; simp)
              clear H4 hu hm hx0 hx6
              cases u with
              | true =>
                go_wp2_with fail
                go_round
                case rel => exact ⟨j + 1, true, by omega, by go_num, rfl, H5⟩
                case measure => simp [intOf]; omega
              | false =>
                go_wp2_with fail
                go_round
                case rel => exact ⟨j + 1, false, by omega, by go_num, rfl, H5⟩
                case measure => simp [intOf]; omega
            · obtain ⟨m, hm⟩ : ∃ m : Nat, x = -((m : Int) + 1) := ⟨(-x - 1).toNat, by omega⟩
              have hm6 : m < N := by omega
              obtain ⟨ib, io, u, rfl, cu, hu⟩ := HB.out m hm6
              have e1 : IntKind.i64.wrap (-x) = (m : Int) + 1 := by rw [IntWalk.i64_in _ (by omega)]; omega
              have e2 : IntKind.i64.wrap (m : Int) = (m : Int) := IntWalk.i64_in _ (by omega)
              have e3 : IntKind.i64.wrap ((m : Int) + 1 - 1) = (m : Int) := by rw [IntWalk.i64_in _ (by omega)]; omega
              have hneg : x < 0 := by omega
              have H5 : Hid (e = ((!u || (c.zs.drop (j + 1)).any (litB bs)) && R)) := Lib.hid (by
                rw [H4.out]
                have : litB bs x = !u := by unfold litB; rw [if_neg hpos, show (-x - 1).toNat = m by omega, hu]
                rw [this]; simp)
              clear H4 hu hm hx0 hx6
              go_wp2_with fail
              go_round
              case rel => exact ⟨j + 1, !u, by omega, by go_num, by simp, H5⟩
              case measure => simp [intOf]; omega
        · obtain rfl : j = d := by omega
          have H5 : Hid (e = (o && R)) := Lib.hid (by rw [H3.out, List.drop_of_length_le (by rw [hd.out]; exact Nat.le_refl _)]; simp)
          clear H3 HZ
          cases o with
          | false =>
            have he0 : e = false := by rw [H5.out]; rfl
            subst he0
            clear H5
            go_wp2_with fail
            go_ret
            exact ⟨rfl, rfl⟩
          | true =>
            have H6 : Hid (e = trL bs ((ct cs).drop (i + 1))) := Lib.hid (by rw [H5.out, hR.out]; rfl)
            clear H5
            go_wp2_with fail
            go_round
            case rel => exact ⟨i + 1, by omega, by go_num, H6⟩
            case measure => simp [intOf]; omega
    · obtain rfl : i = n := by omega
      have he1 : e = true := by
        rw [H1.out, List.drop_of_length_le (by rw [List.length_map, hn.out]; exact Nat.le_refl _)]; rfl
      subst he1
      clear H1 HX
      go_wp2_with fail
      go_ret
      exact ⟨rfl, rfl⟩
end Go.Proofs.Ytdbboeknknlolaa
