/- Walks: Values of package types. -/
import Derived.Test.YtbgaagopckbihaaGreatDoorSv
namespace Go.Proofs.YtbgaagopckbihaaGreatDoor
open Go.RowKit Go.Sort
set_option linter.unusedVariables false

/-- a scalar's cells in memory -/
structure SlAt (w : World) (b o : Nat) (s : Sl) : Prop where
  c0 : w.cell? ⟨b, o, none⟩ = some (.string s.path)
  c1 : w.cell? ⟨b, o + 1, none⟩ = some (.bool s.bool)
  c2 : w.cell? ⟨b, o + 2, none⟩ = some (.int .i64 s.lo)
  c3 : w.cell? ⟨b, o + 3, none⟩ = some (.int .i64 s.hi)
theorem sl_at {w : World} {B : Nat} {A : Option Addr} {l : List Sl} (h : Row w B A (flatS l)) {i : Nat} (hi : i < l.length) :
    ∃ b off s, A = some ⟨b, off, none⟩ ∧ b < B ∧ l[i]? = some s ∧ SlAt w b (off + i * 4) s := by
  obtain ⟨b, off, e, hb, hc⟩ := h.cells (by unfold flatS; rw [flatLen sCells 4 (fun _ => rfl)]; omega)
  have hf : ∀ j, j < 4 → (flatS l)[i * 4 + j]? = (sCells l[i])[j]? := fun j hj => flatAt sCells 4 (fun _ => rfl) l hi hj
  exact ⟨b, off, l[i], e, hb, List.getElem?_eq_getElem hi, hc _ _ (hf 0 (by omega)), hc _ _ (hf 1 (by omega)), hc _ _ (hf 2 (by omega)), hc _ _ (hf 3 (by omega))⟩
theorem drop_cons_ {α : Type} {l : List α} {i : Nat} {x : α} (h : l[i]? = some x) : l.drop i = x :: l.drop (i + 1) := by
  obtain ⟨hi, rfl⟩ := List.getElem?_eq_some_iff.1 h
  exact List.drop_eq_getElem_cons hi
set_option maxRecDepth 100000 in
set_option maxHeartbeats 2000000 in
theorem values_any (e : G) (w : World) (hin : G.In w w.heap.size e) (hT : Tb w.heap.size w) :
    Calls Tryz.prog 24 #[e.val] w fun r w' => r = .returned (.tuple #[.int .i64 (G.valR nmB e).1, .int .i64 (G.valR nmB e).2]) ∧ Below w.heap.size w w' := by
  have X := Eb.start w e 26
  have C1 := Lib.hid (fun W (i : Eb w W e) => scalars_any e W (hin.at i.bel) (hT.at i.bel))
  have HR : Hid (G.valR nmB e = if (G.scalR nmB e).2 ≠ 0 then (0, (G.scalR nmB e).2) else match G.valF (G.scalR nmB e).1 1 with | none => (0, 4) | some t => (t, 0)) := Lib.hid rfl
  obtain ⟨hlen, hok⟩ := G.scalR_ok (nmB := nmB) e
  obtain ⟨z, hz⟩ : ∃ z, Hid (G.valR nmB e = z) := ⟨_, Lib.hid rfl⟩
  obtain ⟨y, hy⟩ : ∃ y, Hid (G.scalR nmB e = y) := ⟨_, Lib.hid rfl⟩
  rw [hy.out] at C1 HR hlen hok
  rw [hz.out] at HR ⊢
  have HOK := Lib.hid hok
  obtain ⟨ys, c⟩ := y
  clear hz hy hT hin hok
  go_enter Tryz.func24, Tryz.ntmps24
  go_upto_region 1 with (fail)
  revert X
  generalize w.alloc (.cells #[.int .i64 e.kd, .int .i64 e.lo, .int .i64 e.hi, .int .i64 e.sz, .string e.nm, .slice e.na e.ns.length e.nc, .slice e.ad e.ks.length e.cap] 26) = w1
  intro X
  obtain ⟨k0, k1, k2, k3, k4, k5, k6⟩ := box_cells X.be
  go_wp2_with fail
  refine (C1.out _ X).mono ?_
  rintro r w2 ⟨A, c', rfl, hr, b2⟩
  replace X := X.below b2
  have hrow := Lib.hid hr.row
  clear k0 k1 k2 k3 k4 k5 k6 b2 C1 hr
  have bl := X.bel
  clear X
  dsimp only at hlen hrow
  by_cases h0 : c = 0
  · have q0 : (c != 0) = false := by rw [h0]; rfl
    have HR2 : Hid (z = match G.valF ys 1 with | none => (0, 4) | some t => (t, 0)) := Lib.hid (by rw [HR.out, if_neg (by rw [h0]; simp)])
    obtain ⟨n, hn⟩ : ∃ n, Hid (ys.length = n) := ⟨_, Lib.hid rfl⟩
    rw [hn.out] at hlen
    have hlI : ys.length = n := hn.out
    clear HR h0
    go_wp2_with fail
    clear hlI
    go_loopw [6, 19] (fun tv iv wr => ∃ (i : Nat) (t : Int), i ≤ n ∧ iv = .int .i64 i ∧ tv = .int .i64 t ∧ Hid (G.valF ys 1 = G.valF (ys.drop i) t) ∧ 1 ≤ t ∧ t ≤ 1099511627776 ∧ Below w2.heap.size w2 wr) (fun _ iv _ => n - (intOf iv).toNat)
    case atStart => exact ⟨0, 1, Nat.zero_le _, rfl, rfl, Lib.hid rfl, by omega, by omega, Below.refl _ _⟩
    case round =>
      obtain ⟨i, t, hi, rfl, rfl, hv, ht1, ht2, Y⟩ := hrel
      by_cases hlt : i < n
      · obtain ⟨b, off, s, rfl, hb, hsi, d0, d1, d2, d3⟩ := sl_at (hrow.out.below Y) (show i < ys.length by rw [hn.out]; exact hlt)
        have hs := HOK.out s (List.mem_of_getElem? hsi)
        have hdr := drop_cons_ hsi
        have HN : Hid (G.valF ys 1 = if 1099511627776 < t * (s.hi - s.lo + 1) then none else G.valF (ys.drop (i + 1)) (t * (s.hi - s.lo + 1))) := Lib.hid (by rw [hv.out, hdr]; rfl)
        unfold G.sOk at hs
        obtain ⟨sp, sb, lo, hi2⟩ := s
        dsimp only at d0 d1 d2 d3 hs HN
        obtain ⟨hs1, hs2, hs3⟩ := hs
        have Y2 := Y.alloc Y.size (.cells #[.string sp, .bool sb, .int .i64 lo, .int .i64 hi2] 56)
        have hq : 1 ≤ hi2 - lo + 1 ∧ hi2 - lo + 1 ≤ 2097153 := by omega
        have e1 : IntKind.i64.wrap (hi2 - lo) = hi2 - lo := IntWalk.i64_in _ (by omega)
        have e2 : IntKind.i64.wrap (hi2 - lo + 1) = hi2 - lo + 1 := IntWalk.i64_in _ (by omega)
        obtain ⟨q, hqq⟩ : ∃ q, hi2 - lo + 1 = q := ⟨_, rfl⟩
        rw [hqq] at hq HN e2
        have hm1 : 1 ≤ t * q := by
          have := Int.mul_le_mul ht1 hq.1 (by decide) (by omega)
          omega
        have hm2 : t * q ≤ 1099511627776 * 2097153 := Int.mul_le_mul ht2 hq.2 (by omega) (by decide)
        obtain ⟨m, hm⟩ : ∃ m, t * q = m := ⟨_, rfl⟩
        rw [hm] at hm1 hm2 HN
        have e3 : IntKind.i64.wrap (t * q) = m := by rw [hm]; exact IntWalk.i64_in _ (by omega)
        have hmm := Lib.hid hm
        by_cases hgt : 1099511627776 < m
        · have HZ : Hid (z = (0, 4)) := Lib.hid (by
            have := HN.out
            rw [if_pos hgt] at this
            rw [HR2.out, this])
          have HZ2 := Lib.hid (show Ending.returned (.tuple #[.int .i64 0, .int .i64 4]) = Ending.returned (.tuple #[.int .i64 z.1, .int .i64 z.2]) by rw [HZ.out])
          clear HN hv hdr hsi hm hm1 hm2 hq HR2
          go_wp2_with fail
          go_ret2
          exact ⟨HZ2.out, bTrans bl Y2⟩
        · have HN2 : Hid (G.valF ys 1 = G.valF (ys.drop (i + 1)) m) := Lib.hid (by rw [HN.out, if_neg hgt])
          have hle : m ≤ 1099511627776 := by omega
          clear HN hv hdr hsi hm hm2 hq
          go_wp2_with fail
          go_roundw
          case rel => exact ⟨i + 1, m, by omega, by go_num, rfl, HN2, hm1, hle, Y2⟩
          case measure => simp [intOf]; omega
      · obtain rfl : i = n := by omega
        have HZ : Hid (z = (t, 0)) := Lib.hid (by
          have := hv.out
          rw [List.drop_of_length_le (by rw [hn.out]; exact Nat.le_refl _)] at this
          rw [HR2.out, this]; rfl)
        have HZ2 := Lib.hid (show Ending.returned (.tuple #[.int .i64 t, .int .i64 0]) = Ending.returned (.tuple #[.int .i64 z.1, .int .i64 z.2]) by rw [HZ.out])
        clear hv HR2
        go_wp2_with fail
        go_ret2
        exact ⟨HZ2.out, bTrans bl Y⟩
  · have q0 : (c != 0) = true := by simpa using h0
    have HZ : Hid (z = (0, c)) := Lib.hid (by rw [HR.out, if_pos h0])
    have HZ2 := Lib.hid (show Ending.returned (.tuple #[.int .i64 0, .int .i64 c]) = Ending.returned (.tuple #[.int .i64 z.1, .int .i64 z.2]) by rw [HZ.out])
    clear HR h0
    go_wp2_with fail
    go_ret2
    exact ⟨HZ2.out, bl⟩
end Go.Proofs.YtbgaagopckbihaaGreatDoor
