/- Walks: isAscending. -/
import Derived.Test.YtdbboeknknlolaaWm
import Derived.Test.YtdbboeknknlolaaW5
import Derived.Deep.RegionHeld3
namespace Go.Proofs.Ytdbboeknknlolaa
open Go.RowKit Go.Sort
set_option linter.unusedVariables false

theorem Gro.cell {w w' : World} (h : Gro w w') {p : Addr} {v : Value} (hc : w.cell? p = some v) : w'.cell? p = some v := (h.bel.cell (World.block_lt_of_cell? w _ hc)).trans hc
set_option maxRecDepth 100000 in
set_option maxHeartbeats 2000000 in
theorem ascI_any (zs : List Int) (A : Option Addr) (c : Nat) (w : World) (hz : Zs w w.heap.size A zs) (hl : zs.length ≤ 1000000) :
    Calls Try.prog 49 #[.slice A zs.length c, .func (.func 50) #[] #[]] w fun e w' => e = .returned (.bool (asc litC zs)) ∧ Gro w w' := by
  have X := Gro.refl w
  have HX := Lib.hid (fun W (h : Gro w W) => hz.at h.bel)
  obtain ⟨e, he⟩ : ∃ e, Hid (asc litC zs = e) := ⟨_, Lib.hid rfl⟩
  have H0 : Hid (asc litC ((zs).drop (0 - 1)) = e) := he
  obtain ⟨n, hn⟩ : ∃ n, Hid (zs.length = n) := ⟨_, Lib.hid rfl⟩
  rw [he.out]
  rw [hn.out] at hl ⊢
  clear hz he
  go_enter Try.func49, Try.ntmps49
  go_wp2_with fail
  go_loopw [5, 8] (fun v5 iv wr => ∃ i : Nat, i ≤ n ∧ iv = .int .i64 i ∧ Hid (asc litC ((zs).drop (i - 1)) = e) ∧ Gro w wr) (fun _ iv _ => n - (intOf iv).toNat)
  case atStart => exact ⟨0, Nat.zero_le _, rfl, H0, X⟩
  case round =>
    clear X H0
    obtain ⟨i, hi, rfl, hte, Y⟩ := hrel
    by_cases hlt : i < n
    · by_cases h0 : i = 0
      · subst h0
        clear HX
        have Yh := Lib.hid (fun q => Y.trans (Gro.dr _ q))
        go_wp2_with fail
        go_quiet (fail)
        go_wp2_with fail
        go_roundw
        case rel => exact ⟨1, by omega, rfl, hte, Yh.out _⟩
        case measure => simp [intOf]; omega
      · obtain ⟨m, hm⟩ : ∃ m, Hid (i = m + 1) := ⟨i - 1, Lib.hid (by omega)⟩
        have hmI : IntKind.i64.wrap ((i : Int) - 1) = (m : Int) := by
          have := hm.out
          rw [IntWalk.i64_in _ (by omega)]; omega
        have hmn : m < n := by have := hm.out; omega
        have q0 : decide ((0 : Int) < (i : Int)) = true := by rw [decide_eq_true_eq]; omega
        have hpos : 0 < i := by omega
        have HY := HX.out _ Y
        obtain ⟨b, off, y, rfl, hb, c1, hyi, ry⟩ := HY.at_ (show i < zs.length by rw [hn.out]; exact hlt)
        obtain ⟨b', off', x, hA', hb', c0, hxi, rx⟩ := HY.at_ (show m < zs.length by rw [hn.out]; exact hmn)
        obtain ⟨rfl, rfl⟩ : b = b' ∧ off = off' := by simpa using hA'
        have HC := Lib.hid (fun W (h : Gro wr W) => lit_any x y rx ry W)
        have G := Gro.dr1 wr
        have HK := Lib.hid (fun W (h : Gro wr W) => And.intro (h.cell c0) (h.cell c1))
        have HT : Hid (e = (decide (litC x y < 0) && asc litC ((zs).drop m.succ))) := Lib.hid (by
          rw [← hte.out, show i - 1 = m by have := hm.out; omega]
          rw [hm.out] at hyi
          exact asc_drop hxi hyi)
        obtain ⟨z, hz2⟩ : ∃ z, Hid (litC x y = z) := ⟨_, Lib.hid rfl⟩
        rw [hz2.out] at HC HT
        clear hyi hxi hA' hte hz2 HY rx ry
        go_upto_region 4 with (fail)
        go_region_held3 (fun w' => w'.cell? ⟨b, off + m, none⟩ = some (.int .i64 x) ∧ w'.cell? ⟨b, off + i, none⟩ = some (.int .i64 y))
          (exact HK.out _ G)
          ((go_at_call 50; (with_reducible refine (HC.out _ G).mono ?_); rintro r w5 ⟨rfl, g5⟩; replace G := G.trans g5))
        have Y2 := Y.trans G
        by_cases hz0 : z < 0
        · have hz1 : ¬ 0 ≤ z := by omega
          have H5 : Hid (asc litC ((zs).drop (i + 1 - 1)) = e) := Lib.hid (by rw [HT.out, decide_eq_true hz0, show i + 1 - 1 = m.succ by have := hm.out; omega]; rfl)
          clear HT HC HK Y hm
          go_wp2_with fail
          go_roundw
          case rel => exact ⟨i + 1, by omega, by go_num, H5, Y2⟩
          case measure => simp [intOf]; omega
        · have hz1 : 0 ≤ z := by omega
          have he0 : e = false := by rw [HT.out, decide_eq_false hz0]; rfl
          subst he0
          clear HT HC HK Y hm
          go_wp2_with fail
          go_ret
          exact ⟨rfl, Y2⟩
    · obtain rfl : i = n := by omega
      have he1 : e = true := by rw [← hte.out]; exact asc_end (by rw [hn.out]; omega)
      subst he1
      clear hte HX
      go_wp2_with fail
      go_ret
      exact ⟨rfl, Y⟩
set_option maxRecDepth 100000 in
set_option maxHeartbeats 2000000 in
theorem ascC_any (cs : List Cl) (A : Option Addr) (c : Nat) (w : World) (hz : LL w w.heap.size A cs) (hl : cs.length ≤ 1000000) (hcx : ∀ c ∈ cs, c.zs.length ≤ 1000000) :
    Calls Try.prog 52 #[.slice A cs.length c, .func (.func 53) #[] #[]] w fun e w' => e = .returned (.bool (asc clC (ct cs))) ∧ Gro w w' := by
  have X := Gro.refl w
  have HX := Lib.hid (fun W (h : Gro w W) => hz.at h.bel)
  obtain ⟨e, he⟩ : ∃ e, Hid (asc clC (ct cs) = e) := ⟨_, Lib.hid rfl⟩
  have H0 : Hid (asc clC (((ct cs)).drop (0 - 1)) = e) := he
  obtain ⟨n, hn⟩ : ∃ n, Hid (cs.length = n) := ⟨_, Lib.hid rfl⟩
  rw [he.out]
  rw [hn.out] at hl ⊢
  clear hz he
  go_enter Try.func52, Try.ntmps52
  go_wp2_with fail
  go_loopw [5, 8] (fun v5 iv wr => ∃ i : Nat, i ≤ n ∧ iv = .int .i64 i ∧ Hid (asc clC (((ct cs)).drop (i - 1)) = e) ∧ Gro w wr) (fun _ iv _ => n - (intOf iv).toNat)
  case atStart => exact ⟨0, Nat.zero_le _, rfl, H0, X⟩
  case round =>
    clear X H0
    obtain ⟨i, hi, rfl, hte, Y⟩ := hrel
    by_cases hlt : i < n
    · by_cases h0 : i = 0
      · subst h0
        clear HX
        have Yh := Lib.hid (fun q => Y.trans (Gro.dr _ q))
        go_wp2_with fail
        go_quiet (fail)
        go_wp2_with fail
        go_roundw
        case rel => exact ⟨1, by omega, rfl, hte, Yh.out _⟩
        case measure => simp [intOf]; omega
      · obtain ⟨m, hm⟩ : ∃ m, Hid (i = m + 1) := ⟨i - 1, Lib.hid (by omega)⟩
        have hmI : IntKind.i64.wrap ((i : Int) - 1) = (m : Int) := by
          have := hm.out
          rw [IntWalk.i64_in _ (by omega)]; omega
        have hmn : m < n := by have := hm.out; omega
        have q0 : decide ((0 : Int) < (i : Int)) = true := by rw [decide_eq_true_eq]; omega
        have hpos : 0 < i := by omega
        have HY := HX.out _ Y
        obtain ⟨b, off, y, rfl, hb, c1, hyi, ry⟩ := HY.at_ (show i < cs.length by rw [hn.out]; exact hlt)
        obtain ⟨b', off', x, hA', hb', c0, hxi, rx⟩ := HY.at_ (show m < cs.length by rw [hn.out]; exact hmn)
        obtain ⟨rfl, rfl⟩ : b = b' ∧ off = off' := by simpa using hA'
        have lx := hcx x (List.mem_of_getElem? hxi)
        have ly := hcx y (List.mem_of_getElem? hyi)
        have HC := Lib.hid (fun W (h : Gro wr W) => cmpfC_top x.zs y.zs x.ad y.ad x.cap y.cap W (rx.at h.bel) (ry.at h.bel) lx ly)
        have G := Gro.dr1 wr
        have HK := Lib.hid (fun W (h : Gro wr W) => And.intro (h.cell c0) (h.cell c1))
        have HT : Hid (e = (decide (clC x.zs y.zs < 0) && asc clC (((ct cs)).drop m.succ))) := Lib.hid (by
          rw [← hte.out, show i - 1 = m by have := hm.out; omega]
          rw [hm.out] at hyi
          exact asc_drop (by rw [List.getElem?_map, hxi]; rfl) (by rw [List.getElem?_map, hyi]; rfl))
        obtain ⟨z, hz2⟩ : ∃ z, Hid (clC x.zs y.zs = z) := ⟨_, Lib.hid rfl⟩
        rw [hz2.out] at HC HT
        clear hyi hxi hA' hte hz2 HY rx ry lx ly
        go_upto_region 4 with (fail)
        go_region_held3 (fun w' => w'.cell? ⟨b, off + m, none⟩ = some (.slice x.ad x.zs.length x.cap) ∧ w'.cell? ⟨b, off + i, none⟩ = some (.slice y.ad y.zs.length y.cap))
          (exact HK.out _ G)
          ((go_at_call 53; (with_reducible refine (HC.out _ G).mono ?_); rintro r w5 ⟨rfl, g5⟩; replace G := G.trans g5))
        have Y2 := Y.trans G
        by_cases hz0 : z < 0
        · have hz1 : ¬ 0 ≤ z := by omega
          have H5 : Hid (asc clC (((ct cs)).drop (i + 1 - 1)) = e) := Lib.hid (by rw [HT.out, decide_eq_true hz0, show i + 1 - 1 = m.succ by have := hm.out; omega]; rfl)
          clear HT HC HK Y hm
          go_wp2_with fail
          go_roundw
          case rel => exact ⟨i + 1, by omega, by go_num, H5, Y2⟩
          case measure => simp [intOf]; omega
        · have hz1 : 0 ≤ z := by omega
          have he0 : e = false := by rw [HT.out, decide_eq_false hz0]; rfl
          subst he0
          clear HT HC HK Y hm
          go_wp2_with fail
          go_ret
          exact ⟨rfl, Y2⟩
    · obtain rfl : i = n := by omega
      have he1 : e = true := by rw [← hte.out]; exact asc_end (by rw [List.length_map, hn.out]; omega)
      subst he1
      clear hte HX
      go_wp2_with fail
      go_ret
      exact ⟨rfl, Y⟩
end Go.Proofs.Ytdbboeknknlolaa
