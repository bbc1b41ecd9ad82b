/- The laws' own functions: True. -/
import Derived.Test.YtdbboeknknlolaaWi
namespace Go.Proofs.Ytdbboeknknlolaa
open Go.RowKit Go.Sort
set_option linter.unusedVariables false

/-- a literal's value under an assignment -/
def litB (bs : List Bool) (x : Int) : Bool := if 0 < x then bs.getD (x - 1).toNat false else !(bs.getD (-x - 1).toNat false)
theorem litB_neg (bs : List Bool) (x : Int) (h : x ≠ 0) : litB bs (-x) = !litB bs x := by
  unfold litB
  by_cases h0 : 0 < x
  · rw [if_neg (by omega), if_pos h0, Int.neg_neg]
  · rw [if_pos (by omega), if_neg h0, Bool.not_not]
def trL (bs : List Bool) (L : List (List Int)) : Bool := L.all fun z => z.any (litB bs)
/-- a list of six truth values in memory -/
structure Bs (w : World) (b o : Nat) (bs : List Bool) : Prop where
  len : bs.length = 6
  c : ∀ k u, bs[k]? = some u → w.cell? ⟨b, o + k, none⟩ = some (.bool u)
theorem Bs.at_ {w : World} {b o : Nat} {bs : List Bool} (h : Bs w b o bs) {m : Nat} (hm : m < 6) : ∃ u, w.cell? ⟨b, o + m, none⟩ = some (.bool u) ∧ bs.getD m false = u := by
  have hl := h.len
  have e : bs[m]? = some bs[m] := List.getElem?_eq_getElem (by omega)
  exact ⟨bs[m], h.c m _ e, by rw [List.getD_eq_getElem?_getD, e]; rfl⟩
set_option maxRecDepth 100000 in
set_option maxHeartbeats 2000000 in
theorem true_any (cs : List Cl) (A : Option Addr) (ca : Nat) (ib io ic : Nat) (bs : List Bool) (w : World) (hx : LL w w.heap.size A cs) (hp : plL (ct cs) = true) (hlx : cs.length ≤ 1000000) (hcx : ∀ c ∈ cs, c.zs.length ≤ 1000000) (hb : Bs w ib io bs) :
    Calls Try.prog 20 #[.slice A cs.length ca, .slice (some ⟨ib, io, none⟩) 6 ic] w fun e w' => e = .returned (.bool (trL bs (ct cs))) ∧ w = w' := by
  have HX := Lib.hid hx
  have HCX := Lib.hid hcx
  have HB := Lib.hid (fun m (hm : m < 6) => hb.at_ hm)
  have HPL := Lib.hid (fun c (hc : c ∈ cs) x (h : x ∈ c.zs) => pl6_neg (plL_mem hp (List.mem_map_of_mem hc) h))
  obtain ⟨n, hn⟩ : ∃ n, Hid (cs.length = n) := ⟨_, Lib.hid rfl⟩
  obtain ⟨e, he⟩ : ∃ e, Hid (trL bs (ct cs) = e) := ⟨_, Lib.hid rfl⟩
  have H0 : Hid (e = trL bs ((ct cs).drop 0)) := Lib.hid (by rw [← he.out]; rfl)
  rw [hn.out] at hlx ⊢
  rw [he.out]
  clear hx he hcx hb hp
  go_enter Try.func20, Try.ntmps20
  go_wp2_with fail
  go_loop [6, 7, 9, 12] (fun v6 v7 v9 iv => ∃ i : Nat, i ≤ n ∧ iv = .int .i64 i ∧ Hid (e = trL bs ((ct cs).drop i))) (fun _ _ _ iv => n - (intOf iv).toNat)
  case atStart => exact ⟨0, Nat.zero_le _, rfl, H0⟩
  case round =>
    clear H0
    obtain ⟨i, hi, rfl, H1⟩ := hrel
    by_cases hlt : i < n
    · obtain ⟨b, off, c, rfl, hb, c0, hci, zc⟩ := HX.out.at_ (show i < cs.length by rw [hn.out]; exact hlt)
      have hcl := HCX.out c (List.mem_of_getElem? hci)
      have HPC := Lib.hid (HPL.out c (List.mem_of_getElem? hci))
      obtain ⟨d, hd⟩ : ∃ d, Hid (c.zs.length = d) := ⟨_, Lib.hid rfl⟩
      rw [hd.out] at c0 hcl
      have HZ := Lib.hid zc
      obtain ⟨R, hR⟩ : ∃ R, Hid (trL bs ((ct cs).drop (i + 1)) = R) := ⟨_, Lib.hid rfl⟩
      have H2 : Hid (e = ((false || (c.zs.drop 0).any (litB bs)) && R)) := Lib.hid (by
        rw [H1.out, drop_cons_ (l := ct cs) (i := i) (x := c.zs) (by rw [List.getElem?_map, hci]; rfl), ← hR.out]; rfl)
      clear H1 hci zc
      go_wp2_with fail
      clear c0
      go_loop [7, 9, 18] (fun v7 v9 jv => ∃ (j : Nat) (o : Bool), j ≤ d ∧ jv = .int .i64 j ∧ v7 = .bool o ∧ Hid (e = ((o || (c.zs.drop j).any (litB bs)) && R))) (fun _ _ jv => d - (intOf jv).toNat)
      case atStart => exact ⟨0, false, Nat.zero_le _, rfl, rfl, H2⟩
      case round =>
        clear H2
        obtain ⟨j, o, hj, rfl, rfl, H3⟩ := hrel
        by_cases hjm : j < d
        · obtain ⟨b2, off2, x, hax, hb2, c1, hxi, rx⟩ := HZ.out.at_ (show j < c.zs.length by rw [hd.out]; exact hjm)
          rw [hax]
          have hpx := HPC.out x (List.mem_of_getElem? hxi)
          have H4 : Hid (e = (((o || litB bs x) || (c.zs.drop (j + 1)).any (litB bs)) && R)) := Lib.hid (by
            rw [H3.out, drop_cons_ hxi, List.any_cons, Bool.or_assoc])
          clear H3 hxi rx hax
          cases o with
          | true =>
            have H5 : Hid (e = ((true || (c.zs.drop (j + 1)).any (litB bs)) && R)) := Lib.hid (by rw [H4.out]; rfl)
            clear H4 hpx
            go_wp2_with fail
            go_round
            case rel => exact ⟨j + 1, true, by omega, by go_num, rfl, H5⟩
            case measure => simp [intOf]; omega
          | false =>
            obtain ⟨_, hx0, hx6⟩ := hpx
            by_cases hpos : 0 < x
            · obtain ⟨m, hm⟩ : ∃ m : Nat, x = (m : Int) + 1 := ⟨(x - 1).toNat, by omega⟩
              have hm6 : m < 6 := by omega
              obtain ⟨u, cu, hu⟩ := HB.out m hm6
              have e1 : IntKind.i64.wrap (x - 1) = (m : Int) := by rw [IntWalk.i64_in _ (by omega)]; omega
              have hneg : ¬ x < 0 := by omega
              have H5 : Hid (e = ((u || (c.zs.drop (j + 1)).any (litB bs)) && R)) := Lib.hid (by
                rw [H4.out]
                have : litB bs x = u := by unfold litB; rw [if_pos hpos, show (x - 1).toNat = m by omega]; exact hu
                rw [this]; simp)
              clear H4 hu hm hx0 hx6
              cases u with
              | true =>
                go_wp2_with fail
                go_round
                case rel => exact ⟨j + 1, true, by omega, by go_num, rfl, H5⟩
                case measure => simp [intOf]; omega
              | false =>
                go_wp2_with fail
                go_round
                case rel => exact ⟨j + 1, false, by omega, by go_num, rfl, H5⟩
                case measure => simp [intOf]; omega
            · obtain ⟨m, hm⟩ : ∃ m : Nat, x = -((m : Int) + 1) := ⟨(-x - 1).toNat, by omega⟩
              have hm6 : m < 6 := by omega
              obtain ⟨u, cu, hu⟩ := HB.out m hm6
              have e1 : IntKind.i64.wrap (-x) = (m : Int) + 1 := by rw [IntWalk.i64_in _ (by omega)]; omega
              have e2 : IntKind.i64.wrap (m : Int) = (m : Int) := IntWalk.i64_in _ (by omega)
              have e3 : IntKind.i64.wrap ((m : Int) + 1 - 1) = (m : Int) := by rw [IntWalk.i64_in _ (by omega)]; omega
              have hneg : x < 0 := by omega
              have H5 : Hid (e = ((!u || (c.zs.drop (j + 1)).any (litB bs)) && R)) := Lib.hid (by
                rw [H4.out]
                have : litB bs x = !u := by unfold litB; rw [if_neg hpos, show (-x - 1).toNat = m by omega, hu]
                rw [this]; simp)
              clear H4 hu hm hx0 hx6
              go_wp2_with fail
              go_round
              case rel => exact ⟨j + 1, !u, by omega, by go_num, by simp, H5⟩
              case measure => simp [intOf]; omega
        · obtain rfl : j = d := by omega
          have H5 : Hid (e = (o && R)) := Lib.hid (by rw [H3.out, List.drop_of_length_le (by rw [hd.out]; exact Nat.le_refl _)]; simp)
          clear H3 HZ
          cases o with
          | false =>
            have he0 : e = false := by rw [H5.out]; rfl
            subst he0
            clear H5
            go_wp2_with fail
            go_ret
            exact ⟨rfl, rfl⟩
          | true =>
            have H6 : Hid (e = trL bs ((ct cs).drop (i + 1))) := Lib.hid (by rw [H5.out, hR.out]; rfl)
            clear H5
            go_wp2_with fail
            go_round
            case rel => exact ⟨i + 1, by omega, by go_num, H6⟩
            case measure => simp [intOf]; omega
    · obtain rfl : i = n := by omega
      have he1 : e = true := by
        rw [H1.out, List.drop_of_length_le (by rw [List.length_map, hn.out]; exact Nat.le_refl _)]; rfl
      subst he1
      clear H1 HX
      go_wp2_with fail
      go_ret
      exact ⟨rfl, rfl⟩
end Go.Proofs.Ytdbboeknknlolaa
