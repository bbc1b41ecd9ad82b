/- Walks: IndexFunc and DeleteFunc with the collector's test. -/
import Derived.Test.YtdbboeknknlolaaWc
namespace Go.Proofs.Ytdbboeknknlolaa
open Go.RowKit Go.Sort
set_option linter.unusedVariables false

/-- is it not the false literal? -/
abbrev nof (x : Int) : Bool := !decide (x = -20001)
set_option maxRecDepth 100000 in
set_option maxHeartbeats 1000000 in
theorem ixf_any (zs : List Int) (A : Option Addr) (c : Nat) (w : World) (hz : Zs w w.heap.size A zs) (hl : zs.length ≤ 1000000) :
    Calls Try.prog 58 #[.slice A zs.length c, .func (.func 101) #[] #[]] w fun e w' => (∃ z : Int, e = .returned (.int .i64 z) ∧ ((z = -1 ∧ zs.filter nof = zs) ∨ ∃ k : Nat, z = (k : Int) ∧ k < zs.length ∧ (zs.take (k + 1)).filter nof = zs.take k)) ∧ Dr w w' := by
  have X := Dr.refl w
  have HX := Lib.hid (fun W (h : Dr w W) => hz.at h.bel)
  obtain ⟨n, hn⟩ : ∃ n, Hid (zs.length = n) := ⟨_, Lib.hid rfl⟩
  have H0 : Hid ((zs.take 0).filter nof = zs.take 0) := Lib.hid rfl
  rw [hn.out] at hl ⊢
  clear hz
  go_enter Try.func58, Try.ntmps58
  go_wp2_with fail
  go_loopw [5, 8] (fun v5 iv wr => ∃ i : Nat, i ≤ n ∧ iv = .int .i64 i ∧ Hid ((zs.take i).filter nof = zs.take i) ∧ Dr w wr) (fun _ iv _ => n - (intOf iv).toNat)
  case atStart => exact ⟨0, Nat.zero_le _, rfl, H0, X⟩
  case round =>
    clear X H0
    obtain ⟨i, hi, rfl, hni, Y⟩ := hrel
    by_cases hlt : i < n
    · obtain ⟨b, off, y, rfl, hb, c0, hyi, ry⟩ := (HX.out _ Y).at_ (show i < zs.length by rw [hn.out]; exact hlt)
      have HA := Lib.hid (fun W => add1_any y W)
      have HT : Hid ((zs.take (i + 1)).filter nof = zs.take i ++ (if y = -20001 then [] else [y])) := Lib.hid (by
        obtain ⟨hil, hie⟩ := List.getElem?_eq_some_iff.1 hyi
        rw [List.take_succ_eq_append_getElem hil, List.filter_append, hni.out, hie]
        by_cases h : y = -20001 <;> simp [h])
      have HT2 : Hid (zs.take (i + 1) = zs.take i ++ [y]) := Lib.hid (by
        obtain ⟨hil, hie⟩ := List.getElem?_eq_some_iff.1 hyi
        rw [List.take_succ_eq_append_getElem hil, hie])
      obtain ⟨s, hs⟩ : ∃ s, Hid (decide (y = -20001) = s) := ⟨_, Lib.hid rfl⟩
      rw [hs.out] at HA
      clear hyi ry hni
      go_wp2_with fail
      refine (HA.out _).mono ?_
      rintro r w2 ⟨rfl, rfl⟩
      clear HA c0
      cases s with
      | true =>
        have HE : Hid ((zs.take (i + 1)).filter nof = zs.take i) := Lib.hid (by rw [HT.out, if_pos (of_decide_eq_true hs.out), List.append_nil])
        clear HT HT2 hs
        go_wp2_with fail
        go_ret
        exact ⟨⟨(i : Int), rfl, .inr ⟨i, rfl, (by have := hn.out; omega), HE.out⟩⟩, Y⟩
      | false =>
        have HE : Hid ((zs.take (i + 1)).filter nof = zs.take (i + 1)) := Lib.hid (by rw [HT.out, HT2.out, if_neg (of_decide_eq_false hs.out)])
        clear HT HT2 hs
        go_wp2_with fail
        go_roundw
        case rel => exact ⟨i + 1, by omega, by go_num, HE, Y⟩
        case measure => simp [intOf]; omega
    · obtain rfl : i = n := by omega
      have HE : Hid (zs.filter nof = zs) := Lib.hid (by have := hni.out; rwa [List.take_of_length_le (by rw [hn.out]; exact Nat.le_refl _)] at this)
      clear hni HX
      go_wp2_with fail
      go_ret
      exact ⟨⟨-1, rfl, .inl ⟨rfl, HE.out⟩⟩, Y⟩
theorem own_cellZ {w : World} {base e g n cap : Nat} {zs : List Int} (h : w.ownsRow base e 1 (.slice (some ⟨g, 0, none⟩) n cap) n (zvals zs)) {j : Nat} {x : Int} (hj : zs[j]? = some x) : w.cell? ⟨g, j, none⟩ = some (.int .i64 x) ∧ w.frozen? ⟨g, j, none⟩ = false := by
  rcases h.2 with ⟨h0, _⟩ | ⟨g', cap', cur, hv, hb, hg, h1, h2, h3, h4⟩
  · cases h0
  injection hv with hv1 hv2 hv3
  injection hv1 with hv4
  injection hv4 with hv5
  subst hv5
  refine ⟨?_, frozen_of_row w g j _ _ hg⟩
  rw [cell_of_row w g j _ _ _ hg]
  have hl : (zvals zs).length = n * 1 := h.1
  rw [zvals_length] at hl
  have hj' := (List.getElem?_eq_some_iff.1 hj).1
  have e1 : (cur.toList.take (n * 1))[j]? = cur[j]? := by rw [List.getElem?_take_of_lt (by omega), Array.getElem?_toList]
  rw [← e1, h4]
  unfold zvals
  rw [List.getElem?_map, hj]; rfl
theorem row_takeZ {w : World} {base e g n cap : Nat} {zs : List Int} (h : w.ownsRow base e 1 (.slice (some ⟨g, 0, none⟩) n cap) n (zvals zs)) (k : Nat) : RowS w (fun b => base ≤ b) (some ⟨g, 0, none⟩) (zvals (zs.take k)) := by
  have hr := RowS.of_own h (by decide)
  refine ⟨fun h0 => ?_⟩
  rw [zvals_length, List.length_take] at h0
  obtain ⟨b, off, e1, e2, e3, e4⟩ := hr.cells (by rw [zvals_length]; omega)
  refine ⟨b, off, e1, e2, e3, fun j u hu => e4 j u ?_⟩
  have hj := (List.getElem?_eq_some_iff.1 hu).1
  rw [zvals_length, List.length_take] at hj
  rw [← hu]
  unfold zvals
  rw [List.getElem?_map, List.getElem?_map, List.getElem?_take_of_lt (by omega)]
/-- the deleting under way: j looked at, i kept -/
structure DI (zs : List Int) (j i : Nat) (dk : List Int) : Prop where
  len : dk.length = zs.length
  lt : i < j
  high : ∀ m, j ≤ m → dk[m]? = zs[m]?
  low : dk.take i = (zs.take j).filter nof
theorem DI.skip {zs dk : List Int} {j i : Nat} (h : DI zs j i dk) {x : Int} (hx : zs[j]? = some x) (hd : nof x = false) : DI zs (j + 1) i dk := by
  obtain ⟨hj, he⟩ := List.getElem?_eq_some_iff.1 hx
  exact ⟨h.len, by have := h.lt; omega, fun m hm => h.high m (by omega), by rw [h.low, List.take_succ_eq_append_getElem hj, List.filter_append, he]; simp [hd]⟩
theorem DI.keep {zs dk : List Int} {j i : Nat} (h : DI zs j i dk) {x : Int} (hx : zs[j]? = some x) (hd : nof x = true) : DI zs (j + 1) (i + 1) (dk.set i x) := by
  obtain ⟨hj, he⟩ := List.getElem?_eq_some_iff.1 hx
  have hlt := h.lt
  have hl := h.len
  refine ⟨by rw [List.length_set, h.len], by omega, fun m hm => by rw [List.getElem?_set_ne (by omega)]; exact h.high m (by omega), ?_⟩
  rw [List.take_succ_eq_append_getElem (l := zs) hj, List.filter_append, ← h.low, he]
  have e1 : (dk.set i x).take (i + 1) = dk.take i ++ [x] := by
    rw [List.take_succ_eq_append_getElem (by rw [List.length_set]; omega), List.getElem_set_self, List.take_set_of_le (Nat.le_refl _)]
  rw [e1]
  have : [x].filter nof = [x] := by rw [List.filter_cons_of_pos hd]; rfl
  rw [this]
set_option maxRecDepth 100000 in
set_option maxHeartbeats 2000000 in
theorem delf_any (base g n cap : Nat) (zs : List Int) (w : World) (hown : w.ownsRow base 3 1 (.slice (some ⟨g, 0, none⟩) n cap) n (zvals zs)) (hr : ∀ x ∈ zs, inI x) (hn : n ≤ 1000000) :
    Calls Try.prog 100 #[.slice (some ⟨g, 0, none⟩) n cap, .func (.func 101) #[] #[]] w fun r w' => (∃ c, r = .returned (.slice (some ⟨g, 0, none⟩) (zs.filter nof).length c)) ∧ RowS w' (fun b => base ≤ b) (some ⟨g, 0, none⟩) (zvals (zs.filter nof)) ∧ w.grownBy w' (some g) := by
  have hl : zs.length = n := by have := own_len hown; rwa [zvals_length] at this
  have hncap : n ≤ cap := by
    rcases hown.2 with ⟨h0, _⟩ | ⟨g', cap', cur, hv, _, _, h1, _⟩
    · cases h0
    · injection hv with _ _ hv3; subst hv3; exact h1
  have hZ : Zs w w.heap.size (some ⟨g, 0, none⟩) zs := ⟨(RowS.of_own hown (by decide)).row, hr, by omega⟩
  have HI := ixf_any zs (some ⟨g, 0, none⟩) cap w hZ (by omega)
  rw [hl] at HI
  have HIh := Lib.hid HI
  have HL := Lib.hid hl
  have HO := Lib.hid hown
  clear HI hZ hl hown hr
  go_enter Try.func100, Try.ntmps100
  go_wp2_with fail
  refine HIh.out.mono ?_
  rintro r w2 ⟨⟨z, rfl, hz⟩, q, rfl⟩
  have HO2 := Lib.hid (own_drew HO.out q)
  have HG2 := Lib.hid ((Gro.dr w q).grown (some g))
  clear HIh HO
  rcases hz with ⟨rfl, hz⟩ | ⟨k, rfl, hk, hz⟩
  · have HF := Lib.hid hz
    have HE : Hid (Ending.returned (.slice (some ⟨g, 0, none⟩) n cap) = .returned (.slice (some ⟨g, 0, none⟩) (zs.filter nof).length cap)) := Lib.hid (by rw [hz, HL.out])
    clear hz
    go_wp2_with fail
    go_ret
    exact ⟨⟨cap, HE.out⟩, by rw [HF.out]; exact RowS.of_own HO2.out (by decide), HG2.out⟩
  · have hkn : k < n := hk
    have q0 : ((k : Int) == -1) = false := by rw [beq_eq_false_iff_ne]; omega
    have D0 : Hid (DI zs (k + 1) k zs) := Lib.hid ⟨rfl, by omega, fun _ _ => rfl, hz.symm⟩
    clear hz hk
    go_wp2_with fail
    go_loopw [5, 6, 7] (fun iv jv v7 wr => ∃ (i j : Nat) (dk : List Int), iv = .int .i64 i ∧ jv = .int .i64 j ∧ j ≤ n ∧ i < n ∧ Hid (DI zs j i dk) ∧ Hid (wr.ownsRow base 3 1 (.slice (some ⟨g, 0, none⟩) n cap) n (zvals dk)) ∧ Hid (w.grownBy wr (some g))) (fun _ jv _ _ => n - (intOf jv).toNat)
    case atStart => exact ⟨k, k + 1, zs, rfl, by go_num, by omega, hkn, D0, HO2, HG2⟩
    case round =>
      clear D0 HO2 HG2
      obtain ⟨i, j, dk, rfl, rfl, hjn, hin, HD, HO, HG⟩ := hrel
      by_cases hlt : j < n
      · obtain ⟨x, hx⟩ : ∃ x, Hid (zs[j]? = some x) := ⟨_, Lib.hid (List.getElem?_eq_getElem (by rw [HL.out]; exact hlt))⟩
        have cx := (own_cellZ HO.out ((HD.out.high j (Nat.le_refl _)).trans hx.out)).1
        obtain ⟨y, hy⟩ : ∃ y, dk[i]? = some y := ⟨_, List.getElem?_eq_getElem (by rw [HD.out.len, HL.out]; exact hin)⟩
        obtain ⟨ci, fi⟩ := own_cellZ HO.out hy
        have HA := Lib.hid (fun W => add1_any x W)
        have hij := HD.out.lt
        obtain ⟨s, hs⟩ : ∃ s, Hid (decide (x = -20001) = s) := ⟨_, Lib.hid rfl⟩
        rw [hs.out] at HA
        cases s with
        | true =>
          have HD2 : Hid (DI zs (j + 1) i dk) := Lib.hid (HD.out.skip hx.out (by unfold nof; rw [hs.out]; rfl))
          clear hx hy hs HD
          go_wp2_with fail
          refine (HA.out _).mono ?_
          rintro r w2 ⟨rfl, rfl⟩
          clear HA
          go_wp2_with fail
          go_roundw
          case rel => exact ⟨i, j + 1, dk, rfl, by go_num, by omega, hin, HD2, HO, HG⟩
          case measure => simp [intOf]; omega
        | false =>
          have HD2 : Hid (DI zs (j + 1) (i + 1) (dk.set i x)) := Lib.hid (HD.out.keep hx.out (by unfold nof; rw [hs.out]; rfl))
          have HS := Lib.hid (show (wr.setCell ⟨g, i, none⟩ (.int .i64 x)).ownsRow base 3 1 (.slice (some ⟨g, 0, none⟩) n cap) n (zvals (dk.set i x)) from by
            have := own_set HO.out i (.int .i64 x)
            unfold zvals
            rw [List.map_set]
            exact this)
          have HG2 := Lib.hid (grown_trans HG.out (grown_set wr g i (.int .i64 x)))
          have hin2 : i + 1 < n := by omega
          clear hx hy hs HD HO HG
          go_wp2_with fail
          refine (HA.out _).mono ?_
          rintro r w2 ⟨rfl, rfl⟩
          clear HA
          go_wp2_with fail
          go_roundw
          case rel => exact ⟨i + 1, j + 1, dk.set i x, by go_num, by go_num, by omega, hin2, HD2, HS, HG2⟩
          case measure => simp [intOf]; omega
      · obtain rfl : j = n := by omega
        have hI := HD.out
        have hlow : dk.take i = zs.filter nof := by rw [hI.low, List.take_of_length_le (by rw [HL.out]; exact Nat.le_refl _)]
        have hcl : ∀ ty, (Builtin.clear_ #[34] ty #[.slice (some ⟨g, i, none⟩) (j - i) (cap - i)]).run Try.prog wr = .ok (.tuple #[]) (wr.setCells g i (List.replicate (j - i) (.int .i64 0))) :=
          fun ty => Lib.run_clear_slice wr _ _ ty _ Try.underlying34 (fun _ => by kernel_rfl) rfl rfl g i _ _ (by omega)
            (fun m hm => by
              obtain ⟨z, hz⟩ : ∃ z, dk[i + m]? = some z := ⟨_, List.getElem?_eq_getElem (by rw [hI.len, HL.out]; omega)⟩
              rw [(own_cellZ HO.out hz).1]; rfl)
            (fun m hm => by
              obtain ⟨z, hz⟩ : ∃ z, dk[i + m]? = some z := ⟨_, List.getElem?_eq_getElem (by rw [hI.len, HL.out]; omega)⟩
              exact (own_cellZ HO.out hz).2)
        have hr := (row_takeZ HO.out i).cells_out (k := i) (by rw [zvals_length, List.length_take]; omega) (List.replicate (j - i) (.int .i64 0))
        have hG2 := grown_trans HG.out (setCells_grown g (List.replicate (j - i) (.int .i64 0)) i wr)
        rw [hlow] at hr
        have HR := Lib.hid (And.intro hr hG2)
        have HL2 : Hid ((zs.filter nof).length = i) := Lib.hid (by rw [← hlow, List.length_take, hI.len, HL.out]; omega)
        clear hI hlow hr hG2 HD HO HG HL
        go_wp2_with fail
        go_ret
        exact ⟨⟨cap, by rw [HL2.out]; rfl⟩, HR.out.1, HR.out.2⟩
end Go.Proofs.Ytdbboeknknlolaa
