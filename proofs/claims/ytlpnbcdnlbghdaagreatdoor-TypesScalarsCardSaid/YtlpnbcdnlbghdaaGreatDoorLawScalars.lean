/- Walk: the law TypesScalars. -/
import Derived.Test.YtlpnbcdnlbghdaaGreatDoorRs
import Derived.Test.YtlpnbcdnlbghdaaGreatDoorKw
import Derived.Test.YtlpnbcdnlbghdaaGreatDoorRe
namespace Go.Proofs.YtlpnbcdnlbghdaaGreatDoor
open Go.RowKit Go.Sort
set_option linter.unusedVariables false

set_option maxRecDepth 100000 in
set_option maxHeartbeats 1000000 in
/-- slices.Equal of scalars, at two copies of one list -/
theorem slequal_same (l : List Sl) (A B : Option Addr) (ca cb : Nat) (w : World) (ha : Row w w.heap.size A (flatS l)) (hb : Row w w.heap.size B (flatS l)) (hlen : l.length ≤ 1000000) :
    Calls Tryz.prog 26 #[.slice A l.length ca, .slice B l.length cb] w fun r w' => r = .returned (.bool true) ∧ Below w.heap.size w w' := by
  have X : Below w.heap.size w w := Below.refl _ _
  obtain ⟨n, hn⟩ : ∃ n, Hid (l.length = n) := ⟨_, Lib.hid rfl⟩
  rw [hn.out] at hlen ⊢
  go_enter Tryz.func26, Tryz.ntmps26
  go_wp2_with fail
  go_loopw [13] (fun iv wr => ∃ i : Nat, i ≤ n ∧ iv = .int .i64 i ∧ Below w.heap.size w wr) (fun iv _ => n - (intOf iv).toNat)
  case atStart => exact ⟨0, Nat.zero_le _, rfl, X⟩
  case round =>
    clear X
    obtain ⟨i, hi, rfl, Y⟩ := hrel
    by_cases hlt : i < n
    · obtain ⟨b1, o1, s, rfl, hb1, hs1, d0, d1, d2, d3⟩ := sl_at (ha.below Y) (show i < l.length by rw [hn.out]; exact hlt)
      obtain ⟨b2, o2, t, rfl, hb2, hs2, e0, e1, e2, e3⟩ := sl_at (hb.below Y) (show i < l.length by rw [hn.out]; exact hlt)
      obtain rfl : s = t := by rw [hs1] at hs2; exact Option.some.inj hs2
      clear hs1 hs2
      go_wp2_with fail
      go_quiet (fail)
      go_wp2_with fail
      go_roundw
      case rel => exact ⟨i + 1, by omega, by go_num, bDrew Y _⟩
      case measure => simp [intOf]; omega
    · obtain rfl : i = n := by omega
      go_wp2_with fail
      go_ret
      exact ⟨rfl, Y⟩
set_option maxRecDepth 100000 in
set_option maxHeartbeats 4000000 in
theorem scalars_walk (e : G) (w : World) (he : G.In w w.heap.size e) (hT : Tb w.heap.size w) :
    Calls Tryz.prog 6 #[e.val] w fun r w' => r = .returned (.bool true) ∧ Below w.heap.size w w' := by
  have X := Eb.start w e 26
  have HT := Lib.hid (fun W (i : Below w.heap.size w W) => hT.at i)
  have F1 := Lib.hid (fun W (i : Eb w W e) => few_any e W (he.at i.bel))
  have S1 := Lib.hid (fun W (i : Eb w W e) => scalars_any e W (he.at i.bel) (hT.at i.bel))
  have V1 := Lib.hid (fun W (i : Eb w W e) => values_any e W (he.at i.bel) (hT.at i.bel))
  have S2 := Lib.hid (fun (h : e.nodes ≤ 1000000) W (i : Eb w W e) => rscalars_any e W (he.at i.bel) h)
  have V2 := Lib.hid (fun (h : e.nodes ≤ 1000000) W (i : Eb w W e) => rvalues_any e W (he.at i.bel) h)
  have HN := Lib.hid (show fewB e = true → e.nodes ≤ 1000000 from fun h => by have := few_nodes h; omega)
  obtain ⟨hlen, _⟩ := G.scalR_ok (nmB := nmB) e
  obtain ⟨y, hy⟩ : ∃ y, Hid (G.scalR nmB e = y) := ⟨_, Lib.hid rfl⟩
  obtain ⟨z, hz⟩ : ∃ z, Hid (G.valR nmB e = z) := ⟨_, Lib.hid rfl⟩
  rw [hy.out] at S1 S2 hlen
  rw [hz.out] at V1 V2
  have SE := Lib.hid (fun A B ca cb W (ha : Row W W.heap.size A (flatS y.1)) (hb : Row W W.heap.size B (flatS y.1)) => slequal_same y.1 A B ca cb W ha hb (by omega))
  clear he hT hy hz hlen
  go_enter Tryz.func6, Tryz.ntmps6
  go_upto_region 1 with (fail)
  revert X
  generalize w.alloc (.cells #[.int .i64 e.kd, .int .i64 e.lo, .int .i64 e.hi, .int .i64 e.sz, .string e.nm, .slice e.na e.ns.length e.nc, .slice e.ad e.ks.length e.cap] 26) = w1
  intro X
  go_wp2_with fail
  refine (known_any _ (HT.out _ X.bel)).mono ?_
  rintro r w2 ⟨rfl, b2⟩
  replace X := X.below b2
  clear b2
  obtain ⟨k0, k1, k2, k3, k4, k5, k6⟩ := box_cells X.be
  go_wp2_with fail
  refine (F1.out _ X).mono ?_
  rintro r w3 ⟨rfl, b3⟩
  replace X := X.below b3
  clear b3 F1 k0 k1 k2 k3 k4 k5 k6
  cases h1 : fewB e with
  | false =>
    have b4 := X.bel
    clear h1
    go_wp2_with fail
    go_ret
    exact ⟨rfl, b4⟩
  | true =>
    have S2' := Lib.hid (S2.out (HN.out h1))
    have V2' := Lib.hid (V2.out (HN.out h1))
    clear h1 HN S2 V2
    obtain ⟨k0, k1, k2, k3, k4, k5, k6⟩ := box_cells X.be
    go_wp2_with fail
    refine (S1.out _ X).mono ?_
    rintro r w4 ⟨A1, c1, rfl, hr1, b4⟩
    replace X := X.below b4
    have R1 := hr1.row
    clear b4 S1 hr1 k0 k1 k2 k3 k4 k5 k6
    obtain ⟨k0, k1, k2, k3, k4, k5, k6⟩ := box_cells X.be
    go_wp2_with fail
    refine (S2'.out _ X).mono ?_
    rintro r w5 ⟨A2, c2, rfl, hr2, b5⟩
    replace X := X.below b5
    have R2 := hr2.row
    replace R1 := (R1.below b5).more b5.size
    clear b5 S2' hr2 k0 k1 k2 k3 k4 k5 k6
    obtain ⟨k0, k1, k2, k3, k4, k5, k6⟩ := box_cells X.be
    go_wp2_with fail
    refine (V1.out _ X).mono ?_
    rintro r w6 ⟨rfl, b6⟩
    replace X := X.below b6
    replace R1 := (R1.below b6).more b6.size
    replace R2 := (R2.below b6).more b6.size
    clear b6 V1 k0 k1 k2 k3 k4 k5 k6
    obtain ⟨k0, k1, k2, k3, k4, k5, k6⟩ := box_cells X.be
    go_wp2_with fail
    refine (V2'.out _ X).mono ?_
    rintro r w7 ⟨rfl, b7⟩
    replace X := X.below b7
    replace R1 := (R1.below b7).more b7.size
    replace R2 := (R2.below b7).more b7.size
    have bw := X.bel
    clear b7 V2' k0 k1 k2 k3 k4 k5 k6 X
    go_wp2_with fail
    refine (SE.out _ _ _ _ _ R1 R2).mono ?_
    rintro r w8 ⟨rfl, b8⟩
    have b9 := bTrans bw b8
    go_wp2_with fail
    go_ret
    exact ⟨rfl, b9⟩
end Go.Proofs.YtlpnbcdnlbghdaaGreatDoor
