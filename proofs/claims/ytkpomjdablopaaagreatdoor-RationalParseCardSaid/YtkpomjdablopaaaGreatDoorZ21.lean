/- My texts, packed: J4, J5, J6, J7. -/
import Derived.Test.YtkpomjdablopaaaGreatDoorZ20
/- Walks of package rational: Parse of the reference, errors. -/
namespace Go.Proofs.YtkpomjdablopaaaGreatDoor
open Go.RowKit
set_option linter.unusedVariables false

set_option maxRecDepth 100000 in
set_option maxHeartbeats 2000000 in
theorem rparse_bad2T (s : ByteArray) (hs : s.size ≤ 80) {D B : List UInt8} (hD : Kt.prD (bs s) = D) (hB : Kt.prB (bs s) = B) (hN : Kt.negB (bs s) = true) (hV1 : Kt.isNum D = true) (hV2 : Kt.isNum B = false) (w : World) :
    Calls Tryz.prog 13 #[.string s] w (PBad 6 w) := by
  have z0 : ¬ (8192 : Int) < (s.size : Int) := by omega
  obtain ⟨hp0, h45⟩ := head_neg hN
  have hp1 : (0 : Int) < (s.size : Int) := by omega
  have hp2 : (1 : Int) ≤ (s.size : Int) := by omega
  have q0 : (((s[0].toNat : Nat) : Int) == 45) = true := by rw [h45]; rfl
  obtain ⟨d, hd⟩ : ∃ d, d = s.extract 1 s.size := ⟨_, rfl⟩
  have HBD : Kt.body (bs s) = bs d := by rw [hd]; exact body_ext hN
  have hds : d.size ≤ 90 := by rw [hd, ByteArray.size_extract]; omega
  obtain ⟨k, hk⟩ := PLoop.of HBD
  rw [hD, hB] at hk
  have HL := Lib.hid hk
  have hlD : D.length ≤ 90 ∧ B.length ≤ 91 := by have h := Kt.pr_len (bs s); rw [hD, hB, bs_length] at h; omega
  have HI1 := Lib.hid (fun (W : World) => (by have h := rdigits_any (mkB D) (by rw [mk_size]; omega) W; rw [bs_mk, hV1] at h; exact h : Calls Tryz.prog 35 #[.string (mkB D)] W fun e w' => e = .returned (.bool true) ∧ Below W.heap.size W w'))
  have HI2 := Lib.hid (fun (W : World) => (by have h := rdigits_any (mkB B) (by rw [mk_size]; omega) W; rw [bs_mk, hV2] at h; exact h : Calls Tryz.prog 35 #[.string (mkB B)] W fun e w' => e = .returned (.bool false) ∧ Below W.heap.size W w'))
  have HS := Lib.hid hs
  clear HBD hk hN hV1 hlD hD hB hs hV2 h45
  go_enter Tryz.func13, Tryz.ntmps13
  go_wp2_with fail
  have t2 : Four (w.alloc (.cells #[.bool false, .slice none 0 0, .bool false, .slice none 0 0] 26)) w.heap.size (.bool false) (.slice none 0 0) (.bool false) (.slice none 0 0) := Four.new_ w (.bool false) (.slice none 0 0) (.bool false) (.slice none 0 0) 26
  have bel : Below w.heap.size w (w.alloc (.cells #[.bool false, .slice none 0 0, .bool false, .slice none 0 0] 26)) := (Below.refl _ _).alloc (Nat.le_refl _) _
  generalize (w.alloc (.cells #[.bool false, .slice none 0 0, .bool false, .slice none 0 0] 26)) = wx at t2 bel ⊢
  go_upto_region 8 with (fail)
  rw [← hd]
  clear hd
  go_wp2_with fail
  go_loopw [5, 6, 7] (fun nv dv iv wr => ∃ (i : Nat) (U V : ByteArray), i ≤ d.size ∧ iv = .int .i64 (i : Int) ∧ nv = .string U ∧ dv = .string V ∧ Hid (PSt d k D B i U V) ∧ Four wr w.heap.size (.bool false) (.slice none 0 0) (.bool false) (.slice none 0 0) ∧ Below w.heap.size w wr) (fun _ _ iv _ => d.size - (intOf iv).toNat)
  case atStart => exact ⟨0, d, ⟨#[49]⟩, Nat.zero_le _, rfl, rfl, rfl, Lib.hid (.inl ⟨Nat.zero_le _, rfl, rfl⟩), t2, bel⟩
  case round =>
    clear t2 bel
    obtain ⟨i, U, V, hi, rfl, rfl, rfl, HST, t2, bel⟩ := hrel
    by_cases hlt : i < d.size
    · have hltI : (i : Int) < (d.size : Int) := by omega
      obtain ⟨x, hx⟩ : ∃ x : Nat, d[i].toNat = x := ⟨_, rfl⟩
      have hix := index_run2 (s := d) (i := i) (x := (x : Int)) hlt (by rw [hx])
      have HJ := Lib.hid (show i + 1 ≤ d.size by omega)
      have hwk : IntKind.i64.wrap ((i : Int) + 1) = ((i + 1 : Nat) : Int) := (IntWalk.i64_in _ (by have := HS.out; omega)).trans (by omega)
      rcases HST.out with ⟨hik, rfl, rfl⟩ | ⟨hik, hU, hV⟩
      · by_cases hikk : i < k
        · have q1 : ((x : Int) == 47) = false := by rw [beq_eq_false_iff_ne, ← hx]; exact ne47 hlt (HL.out.no i hikk)
          have HS2 : Hid (PSt U k D B (i + 1) U ⟨#[49]⟩) := Lib.hid (.inl ⟨hikk, rfl, rfl⟩)
          clear HST hx hik hikk hlt
          go_wp2_with fail
          go_roundw
          case rel => exact ⟨i + 1, U, ⟨#[49]⟩, HJ.out, by first | go_num | rfl, rfl, rfl, HS2, t2, bel⟩
          case measure => (have := HJ.out; first | (simp [intOf]; omega) | (simp [intOf, hwk]; omega))
        · obtain rfl : i = k := by omega
          obtain ⟨e1, e2, e3⟩ := HL.out.cut hlt
          have hx47 : x = 47 := by have := eq47 hlt e1; omega
          subst hx47
          have HS2 : Hid (PSt U i D B (i + 1) (U.extract 0 i) (U.extract (i + 1) U.size)) := Lib.hid (.inr ⟨Nat.lt_succ_self _, e2, e3⟩)
          have w1 : (i : Int) ≤ (U.size : Int) := by omega
          have w2 : (i : Int) + 1 ≤ (U.size : Int) := by omega
          have w3 : ((i : Int) + 1).toNat = i + 1 := by omega
          clear HST hx hik hikk e1 e2 e3 hlt
          go_wp2_with fail
          go_roundw
          case rel => exact ⟨i + 1, _, _, HJ.out, by first | go_num | rfl, rfl, rfl, HS2, t2, bel⟩
          case measure => (have := HJ.out; first | (simp [intOf]; omega) | (simp [intOf, hwk]; omega))
      · have hsz := HL.out.sz (by omega)
        rw [← hU] at hsz
        have q2 : ((U.size : Int) == (d.size : Int)) = false := by rw [beq_eq_false_iff_ne]; omega
        have HS2 : Hid (PSt d k D B (i + 1) U V) := Lib.hid (.inr ⟨by omega, hU, hV⟩)
        clear HST hik hU hV hsz
        by_cases h47 : x = 47
        · have q1 : ((x : Int) == 47) = true := by rw [h47]; rfl
          clear h47 hx hlt
          go_wp2_with fail
          go_roundw
          case rel => exact ⟨i + 1, U, V, HJ.out, by first | go_num | rfl, rfl, rfl, HS2, t2, bel⟩
          case measure => (have := HJ.out; first | (simp [intOf]; omega) | (simp [intOf, hwk]; omega))
        · have q1 : ((x : Int) == 47) = false := by rw [beq_eq_false_iff_ne]; omega
          clear h47 hx hlt
          go_wp2_with fail
          go_roundw
          case rel => exact ⟨i + 1, U, V, HJ.out, by first | go_num | rfl, rfl, rfl, HS2, t2, bel⟩
          case measure => (have := HJ.out; first | (simp [intOf]; omega) | (simp [intOf, hwk]; omega))
    · obtain rfl : i = d.size := by omega
      obtain ⟨rfl, rfl⟩ := HST.out.fin HL.out
      clear HST HL hi hlt
      go_wp2_with fail
      refine (HI1.out _).mono ?_
      rintro e w2 ⟨rfl, hb⟩
      replace t2 := t2.below hb t2.lt
      replace bel := bel.trans (hb.mono bel.size)
      clear hb
      go_wp2_with fail
      refine (HI2.out _).mono ?_
      rintro e w3 ⟨rfl, hb⟩
      replace t2 := t2.below hb t2.lt
      replace bel := bel.trans (hb.mono bel.size)
      clear hb
      have d0 := t2.c0
      have d1 := t2.c1
      have d2 := t2.c2
      have d3 := t2.c3
      have f0 := t2.fr 0
      have f1 := t2.fr 1
      have f2 := t2.fr 2
      have f3 := t2.fr 3
      have R := Lib.hid (t2.put (.bool false) (.slice none 0 0) (.bool false) (.slice none 0 0))
      have BL := Lib.hid (below_set4 bel (b := w.heap.size) (by omega) (.bool false) (.slice none 0 0) (.bool false) (.slice none 0 0))
      clear t2 bel
      go_wp2_with fail
      have r0 := R.out.c0
      have r1 := R.out.c1
      have r2 := R.out.c2
      have r3 := R.out.c3
      unfold set4 at r0 r1 r2 r3
      refine bodyPost_ret (v := .tuple #[.agg #[.bool false, .slice none 0 0, .bool false, .slice none 0 0], .int .i64 6]) (by simp [results, Tryz.results13, go_sem, r0, r1, r2, r3]) rfl ?_
      exact ⟨rfl, BL.out⟩

set_option maxRecDepth 100000 in
set_option maxHeartbeats 2000000 in
theorem rparse_bad2F (s : ByteArray) (hs : s.size ≤ 80) {D B : List UInt8} (hD : Kt.prD (bs s) = D) (hB : Kt.prB (bs s) = B) (hN : Kt.negB (bs s) = false) (hp0 : 0 < s.size) (hV1 : Kt.isNum D = true) (hV2 : Kt.isNum B = false) (w : World) :
    Calls Tryz.prog 13 #[.string s] w (PBad 6 w) := by
  have z0 : ¬ (8192 : Int) < (s.size : Int) := by omega
  have hp1 : (0 : Int) < (s.size : Int) := by omega
  have q0 : (((s[0].toNat : Nat) : Int) == 45) = false := by rw [beq_eq_false_iff_ne]; exact head_pos hN hp0
  have HBD : Kt.body (bs s) = bs s := Kt.body_pos hN
  obtain ⟨k, hk⟩ := PLoop.of HBD
  rw [hD, hB] at hk
  have HL := Lib.hid hk
  have hlD : D.length ≤ 90 ∧ B.length ≤ 91 := by have h := Kt.pr_len (bs s); rw [hD, hB, bs_length] at h; omega
  have HI1 := Lib.hid (fun (W : World) => (by have h := rdigits_any (mkB D) (by rw [mk_size]; omega) W; rw [bs_mk, hV1] at h; exact h : Calls Tryz.prog 35 #[.string (mkB D)] W fun e w' => e = .returned (.bool true) ∧ Below W.heap.size W w'))
  have HI2 := Lib.hid (fun (W : World) => (by have h := rdigits_any (mkB B) (by rw [mk_size]; omega) W; rw [bs_mk, hV2] at h; exact h : Calls Tryz.prog 35 #[.string (mkB B)] W fun e w' => e = .returned (.bool false) ∧ Below W.heap.size W w'))
  have HS := Lib.hid hs
  clear HBD hk hN hV1 hlD hD hB hs hV2
  go_enter Tryz.func13, Tryz.ntmps13
  go_wp2_with fail
  have t2 : Four (w.alloc (.cells #[.bool false, .slice none 0 0, .bool false, .slice none 0 0] 26)) w.heap.size (.bool false) (.slice none 0 0) (.bool false) (.slice none 0 0) := Four.new_ w (.bool false) (.slice none 0 0) (.bool false) (.slice none 0 0) 26
  have bel : Below w.heap.size w (w.alloc (.cells #[.bool false, .slice none 0 0, .bool false, .slice none 0 0] 26)) := (Below.refl _ _).alloc (Nat.le_refl _) _
  generalize (w.alloc (.cells #[.bool false, .slice none 0 0, .bool false, .slice none 0 0] 26)) = wx at t2 bel ⊢
  go_upto_region 8 with (fail)
  go_wp2_with fail
  go_loopw [5, 6, 7] (fun nv dv iv wr => ∃ (i : Nat) (U V : ByteArray), i ≤ s.size ∧ iv = .int .i64 (i : Int) ∧ nv = .string U ∧ dv = .string V ∧ Hid (PSt s k D B i U V) ∧ Four wr w.heap.size (.bool false) (.slice none 0 0) (.bool false) (.slice none 0 0) ∧ Below w.heap.size w wr) (fun _ _ iv _ => s.size - (intOf iv).toNat)
  case atStart => exact ⟨0, s, ⟨#[49]⟩, Nat.zero_le _, rfl, rfl, rfl, Lib.hid (.inl ⟨Nat.zero_le _, rfl, rfl⟩), t2, bel⟩
  case round =>
    clear t2 bel
    obtain ⟨i, U, V, hi, rfl, rfl, rfl, HST, t2, bel⟩ := hrel
    by_cases hlt : i < s.size
    · have hltI : (i : Int) < (s.size : Int) := by omega
      obtain ⟨x, hx⟩ : ∃ x : Nat, s[i].toNat = x := ⟨_, rfl⟩
      have hix := index_run2 (s := s) (i := i) (x := (x : Int)) hlt (by rw [hx])
      have HJ := Lib.hid (show i + 1 ≤ s.size by omega)
      have hwk : IntKind.i64.wrap ((i : Int) + 1) = ((i + 1 : Nat) : Int) := (IntWalk.i64_in _ (by have := HS.out; omega)).trans (by omega)
      rcases HST.out with ⟨hik, rfl, rfl⟩ | ⟨hik, hU, hV⟩
      · by_cases hikk : i < k
        · have q1 : ((x : Int) == 47) = false := by rw [beq_eq_false_iff_ne, ← hx]; exact ne47 hlt (HL.out.no i hikk)
          have HS2 : Hid (PSt U k D B (i + 1) U ⟨#[49]⟩) := Lib.hid (.inl ⟨hikk, rfl, rfl⟩)
          clear HST hx hik hikk hlt
          go_wp2_with fail
          go_roundw
          case rel => exact ⟨i + 1, U, ⟨#[49]⟩, HJ.out, by first | go_num | rfl, rfl, rfl, HS2, t2, bel⟩
          case measure => (have := HJ.out; first | (simp [intOf]; omega) | (simp [intOf, hwk]; omega))
        · obtain rfl : i = k := by omega
          obtain ⟨e1, e2, e3⟩ := HL.out.cut hlt
          have hx47 : x = 47 := by have := eq47 hlt e1; omega
          subst hx47
          have HS2 : Hid (PSt U i D B (i + 1) (U.extract 0 i) (U.extract (i + 1) U.size)) := Lib.hid (.inr ⟨Nat.lt_succ_self _, e2, e3⟩)
          have w1 : (i : Int) ≤ (U.size : Int) := by omega
          have w2 : (i : Int) + 1 ≤ (U.size : Int) := by omega
          have w3 : ((i : Int) + 1).toNat = i + 1 := by omega
          clear HST hx hik hikk e1 e2 e3 hlt
          go_wp2_with fail
          go_roundw
          case rel => exact ⟨i + 1, _, _, HJ.out, by first | go_num | rfl, rfl, rfl, HS2, t2, bel⟩
          case measure => (have := HJ.out; first | (simp [intOf]; omega) | (simp [intOf, hwk]; omega))
      · have hsz := HL.out.sz (by omega)
        rw [← hU] at hsz
        have q2 : ((U.size : Int) == (s.size : Int)) = false := by rw [beq_eq_false_iff_ne]; omega
        have HS2 : Hid (PSt s k D B (i + 1) U V) := Lib.hid (.inr ⟨by omega, hU, hV⟩)
        clear HST hik hU hV hsz
        by_cases h47 : x = 47
        · have q1 : ((x : Int) == 47) = true := by rw [h47]; rfl
          clear h47 hx hlt
          go_wp2_with fail
          go_roundw
          case rel => exact ⟨i + 1, U, V, HJ.out, by first | go_num | rfl, rfl, rfl, HS2, t2, bel⟩
          case measure => (have := HJ.out; first | (simp [intOf]; omega) | (simp [intOf, hwk]; omega))
        · have q1 : ((x : Int) == 47) = false := by rw [beq_eq_false_iff_ne]; omega
          clear h47 hx hlt
          go_wp2_with fail
          go_roundw
          case rel => exact ⟨i + 1, U, V, HJ.out, by first | go_num | rfl, rfl, rfl, HS2, t2, bel⟩
          case measure => (have := HJ.out; first | (simp [intOf]; omega) | (simp [intOf, hwk]; omega))
    · obtain rfl : i = s.size := by omega
      obtain ⟨rfl, rfl⟩ := HST.out.fin HL.out
      clear HST HL hi hlt
      go_wp2_with fail
      refine (HI1.out _).mono ?_
      rintro e w2 ⟨rfl, hb⟩
      replace t2 := t2.below hb t2.lt
      replace bel := bel.trans (hb.mono bel.size)
      clear hb
      go_wp2_with fail
      refine (HI2.out _).mono ?_
      rintro e w3 ⟨rfl, hb⟩
      replace t2 := t2.below hb t2.lt
      replace bel := bel.trans (hb.mono bel.size)
      clear hb
      have d0 := t2.c0
      have d1 := t2.c1
      have d2 := t2.c2
      have d3 := t2.c3
      have f0 := t2.fr 0
      have f1 := t2.fr 1
      have f2 := t2.fr 2
      have f3 := t2.fr 3
      have R := Lib.hid (t2.put (.bool false) (.slice none 0 0) (.bool false) (.slice none 0 0))
      have BL := Lib.hid (below_set4 bel (b := w.heap.size) (by omega) (.bool false) (.slice none 0 0) (.bool false) (.slice none 0 0))
      clear t2 bel
      go_wp2_with fail
      have r0 := R.out.c0
      have r1 := R.out.c1
      have r2 := R.out.c2
      have r3 := R.out.c3
      unfold set4 at r0 r1 r2 r3
      refine bodyPost_ret (v := .tuple #[.agg #[.bool false, .slice none 0 0, .bool false, .slice none 0 0], .int .i64 6]) (by simp [results, Tryz.results13, go_sem, r0, r1, r2, r3]) rfl ?_
      exact ⟨rfl, BL.out⟩

set_option maxRecDepth 100000 in
set_option maxHeartbeats 2000000 in
theorem rparse_bad3T (s : ByteArray) (hs : s.size ≤ 80) {D B : List UInt8} (hD : Kt.prD (bs s) = D) (hB : Kt.prB (bs s) = B) (hN : Kt.negB (bs s) = true) (hV1 : Kt.isNum D = true) (hV2 : Kt.isNum B = true) (hZ : (D == [48]) = true) (w : World) :
    Calls Tryz.prog 13 #[.string s] w (PBad 6 w) := by
  have z0 : ¬ (8192 : Int) < (s.size : Int) := by omega
  obtain ⟨hp0, h45⟩ := head_neg hN
  have hp1 : (0 : Int) < (s.size : Int) := by omega
  have hp2 : (1 : Int) ≤ (s.size : Int) := by omega
  have q0 : (((s[0].toNat : Nat) : Int) == 45) = true := by rw [h45]; rfl
  obtain ⟨d, hd⟩ : ∃ d, d = s.extract 1 s.size := ⟨_, rfl⟩
  have HBD : Kt.body (bs s) = bs d := by rw [hd]; exact body_ext hN
  have hds : d.size ≤ 90 := by rw [hd, ByteArray.size_extract]; omega
  obtain ⟨k, hk⟩ := PLoop.of HBD
  rw [hD, hB] at hk
  have HL := Lib.hid hk
  have hlD : D.length ≤ 90 ∧ B.length ≤ 91 := by have h := Kt.pr_len (bs s); rw [hD, hB, bs_length] at h; omega
  have HI1 := Lib.hid (fun (W : World) => (by have h := rdigits_any (mkB D) (by rw [mk_size]; omega) W; rw [bs_mk, hV1] at h; exact h : Calls Tryz.prog 35 #[.string (mkB D)] W fun e w' => e = .returned (.bool true) ∧ Below W.heap.size W w'))
  have HI2 := Lib.hid (fun (W : World) => (by have h := rdigits_any (mkB B) (by rw [mk_size]; omega) W; rw [bs_mk, hV2] at h; exact h : Calls Tryz.prog 35 #[.string (mkB B)] W fun e w' => e = .returned (.bool true) ∧ Below W.heap.size W w'))
  have q48 : ((mkB D).toList == [48]) = true := by rw [bs_toList, bs_mk]; exact hZ
  have HS := Lib.hid hs
  clear HBD hk hN hV1 hlD hD hB hs hV2 hZ h45
  go_enter Tryz.func13, Tryz.ntmps13
  go_wp2_with fail
  have t2 : Four (w.alloc (.cells #[.bool false, .slice none 0 0, .bool false, .slice none 0 0] 26)) w.heap.size (.bool false) (.slice none 0 0) (.bool false) (.slice none 0 0) := Four.new_ w (.bool false) (.slice none 0 0) (.bool false) (.slice none 0 0) 26
  have bel : Below w.heap.size w (w.alloc (.cells #[.bool false, .slice none 0 0, .bool false, .slice none 0 0] 26)) := (Below.refl _ _).alloc (Nat.le_refl _) _
  generalize (w.alloc (.cells #[.bool false, .slice none 0 0, .bool false, .slice none 0 0] 26)) = wx at t2 bel ⊢
  go_upto_region 8 with (fail)
  rw [← hd]
  clear hd
  go_wp2_with fail
  go_loopw [5, 6, 7] (fun nv dv iv wr => ∃ (i : Nat) (U V : ByteArray), i ≤ d.size ∧ iv = .int .i64 (i : Int) ∧ nv = .string U ∧ dv = .string V ∧ Hid (PSt d k D B i U V) ∧ Four wr w.heap.size (.bool false) (.slice none 0 0) (.bool false) (.slice none 0 0) ∧ Below w.heap.size w wr) (fun _ _ iv _ => d.size - (intOf iv).toNat)
  case atStart => exact ⟨0, d, ⟨#[49]⟩, Nat.zero_le _, rfl, rfl, rfl, Lib.hid (.inl ⟨Nat.zero_le _, rfl, rfl⟩), t2, bel⟩
  case round =>
    clear t2 bel
    obtain ⟨i, U, V, hi, rfl, rfl, rfl, HST, t2, bel⟩ := hrel
    by_cases hlt : i < d.size
    · have hltI : (i : Int) < (d.size : Int) := by omega
      obtain ⟨x, hx⟩ : ∃ x : Nat, d[i].toNat = x := ⟨_, rfl⟩
      have hix := index_run2 (s := d) (i := i) (x := (x : Int)) hlt (by rw [hx])
      have HJ := Lib.hid (show i + 1 ≤ d.size by omega)
      have hwk : IntKind.i64.wrap ((i : Int) + 1) = ((i + 1 : Nat) : Int) := (IntWalk.i64_in _ (by have := HS.out; omega)).trans (by omega)
      rcases HST.out with ⟨hik, rfl, rfl⟩ | ⟨hik, hU, hV⟩
      · by_cases hikk : i < k
        · have q1 : ((x : Int) == 47) = false := by rw [beq_eq_false_iff_ne, ← hx]; exact ne47 hlt (HL.out.no i hikk)
          have HS2 : Hid (PSt U k D B (i + 1) U ⟨#[49]⟩) := Lib.hid (.inl ⟨hikk, rfl, rfl⟩)
          clear HST hx hik hikk hlt
          go_wp2_with fail
          go_roundw
          case rel => exact ⟨i + 1, U, ⟨#[49]⟩, HJ.out, by first | go_num | rfl, rfl, rfl, HS2, t2, bel⟩
          case measure => (have := HJ.out; first | (simp [intOf]; omega) | (simp [intOf, hwk]; omega))
        · obtain rfl : i = k := by omega
          obtain ⟨e1, e2, e3⟩ := HL.out.cut hlt
          have hx47 : x = 47 := by have := eq47 hlt e1; omega
          subst hx47
          have HS2 : Hid (PSt U i D B (i + 1) (U.extract 0 i) (U.extract (i + 1) U.size)) := Lib.hid (.inr ⟨Nat.lt_succ_self _, e2, e3⟩)
          have w1 : (i : Int) ≤ (U.size : Int) := by omega
          have w2 : (i : Int) + 1 ≤ (U.size : Int) := by omega
          have w3 : ((i : Int) + 1).toNat = i + 1 := by omega
          clear HST hx hik hikk e1 e2 e3 hlt
          go_wp2_with fail
          go_roundw
          case rel => exact ⟨i + 1, _, _, HJ.out, by first | go_num | rfl, rfl, rfl, HS2, t2, bel⟩
          case measure => (have := HJ.out; first | (simp [intOf]; omega) | (simp [intOf, hwk]; omega))
      · have hsz := HL.out.sz (by omega)
        rw [← hU] at hsz
        have q2 : ((U.size : Int) == (d.size : Int)) = false := by rw [beq_eq_false_iff_ne]; omega
        have HS2 : Hid (PSt d k D B (i + 1) U V) := Lib.hid (.inr ⟨by omega, hU, hV⟩)
        clear HST hik hU hV hsz
        by_cases h47 : x = 47
        · have q1 : ((x : Int) == 47) = true := by rw [h47]; rfl
          clear h47 hx hlt
          go_wp2_with fail
          go_roundw
          case rel => exact ⟨i + 1, U, V, HJ.out, by first | go_num | rfl, rfl, rfl, HS2, t2, bel⟩
          case measure => (have := HJ.out; first | (simp [intOf]; omega) | (simp [intOf, hwk]; omega))
        · have q1 : ((x : Int) == 47) = false := by rw [beq_eq_false_iff_ne]; omega
          clear h47 hx hlt
          go_wp2_with fail
          go_roundw
          case rel => exact ⟨i + 1, U, V, HJ.out, by first | go_num | rfl, rfl, rfl, HS2, t2, bel⟩
          case measure => (have := HJ.out; first | (simp [intOf]; omega) | (simp [intOf, hwk]; omega))
    · obtain rfl : i = d.size := by omega
      obtain ⟨rfl, rfl⟩ := HST.out.fin HL.out
      clear HST HL hi hlt
      go_wp2_with fail
      refine (HI1.out _).mono ?_
      rintro e w2 ⟨rfl, hb⟩
      replace t2 := t2.below hb t2.lt
      replace bel := bel.trans (hb.mono bel.size)
      clear hb
      go_wp2_with fail
      refine (HI2.out _).mono ?_
      rintro e w3 ⟨rfl, hb⟩
      replace t2 := t2.below hb t2.lt
      replace bel := bel.trans (hb.mono bel.size)
      clear hb
      have d0 := t2.c0
      have d1 := t2.c1
      have d2 := t2.c2
      have d3 := t2.c3
      have f0 := t2.fr 0
      have f1 := t2.fr 1
      have f2 := t2.fr 2
      have f3 := t2.fr 3
      have R := Lib.hid (t2.put (.bool false) (.slice none 0 0) (.bool false) (.slice none 0 0))
      have BL := Lib.hid (below_set4 bel (b := w.heap.size) (by omega) (.bool false) (.slice none 0 0) (.bool false) (.slice none 0 0))
      clear t2 bel
      go_wp2_with fail
      have r0 := R.out.c0
      have r1 := R.out.c1
      have r2 := R.out.c2
      have r3 := R.out.c3
      unfold set4 at r0 r1 r2 r3
      refine bodyPost_ret (v := .tuple #[.agg #[.bool false, .slice none 0 0, .bool false, .slice none 0 0], .int .i64 6]) (by simp [results, Tryz.results13, go_sem, r0, r1, r2, r3]) rfl ?_
      exact ⟨rfl, BL.out⟩
end Go.Proofs.YtkpomjdablopaaaGreatDoor
/- Walks of package rational: Parse of the reference, a denominator 0. -/
namespace Go.Proofs.YtkpomjdablopaaaGreatDoor
open Go.RowKit
set_option linter.unusedVariables false

set_option maxRecDepth 100000 in
set_option maxHeartbeats 2000000 in
theorem rparse_zeroT (s : ByteArray) (hs : s.size ≤ 80) {D B : List UInt8} (hD : Kt.prD (bs s) = D) (hB : Kt.prB (bs s) = B) (hN : Kt.negB (bs s) = true) (hV1 : Kt.isNum D = true) (hV2 : Kt.isNum B = true) (hZ : (D == [48]) = false) (hy : Kt.valN B = 0) (w : World) :
    Calls Tryz.prog 13 #[.string s] w (PBad 3 w) := by
  have z0 : ¬ (8192 : Int) < (s.size : Int) := by omega
  obtain ⟨hp0, h45⟩ := head_neg hN
  have hp1 : (0 : Int) < (s.size : Int) := by omega
  have hp2 : (1 : Int) ≤ (s.size : Int) := by omega
  have q0 : (((s[0].toNat : Nat) : Int) == 45) = true := by rw [h45]; rfl
  obtain ⟨d, hd⟩ : ∃ d, d = s.extract 1 s.size := ⟨_, rfl⟩
  have HBD : Kt.body (bs s) = bs d := by rw [hd]; exact body_ext hN
  have hds : d.size ≤ 90 := by rw [hd, ByteArray.size_extract]; omega
  obtain ⟨k, hk⟩ := PLoop.of HBD
  rw [hD, hB] at hk
  have HL := Lib.hid hk
  have hlD : D.length ≤ 90 ∧ B.length ≤ 91 := by have h := Kt.pr_len (bs s); rw [hD, hB, bs_length] at h; omega
  have HI1 := Lib.hid (fun (W : World) => (by have h := rdigits_any (mkB D) (by rw [mk_size]; omega) W; rw [bs_mk, hV1] at h; exact h : Calls Tryz.prog 35 #[.string (mkB D)] W fun e w' => e = .returned (.bool true) ∧ Below W.heap.size W w'))
  have HI2 := Lib.hid (fun (W : World) => (by have h := rdigits_any (mkB B) (by rw [mk_size]; omega) W; rw [bs_mk, hV2] at h; exact h : Calls Tryz.prog 35 #[.string (mkB B)] W fun e w' => e = .returned (.bool true) ∧ Below W.heap.size W w'))
  have q48 : ((mkB D).toList == [48]) = false := by rw [bs_toList, bs_mk]; exact hZ
  obtain ⟨X, hX⟩ : ∃ X : Nat, X = Kt.valN D := ⟨_, rfl⟩
  obtain ⟨Y, hY⟩ : ∃ Y : Nat, Y = Kt.valN B := ⟨_, rfl⟩
  rw [← hY] at hy
  have HW1 := Lib.hid (fun (W : World) => (by have h := rwhole_any (mkB D) (by rw [mk_size]; omega) (by rw [bs_mk]; exact Kt.isNum_all hV1) W; rw [bs_mk, ← hX] at h; exact h : Calls Tryz.prog 36 #[.string (mkB D)] W (GI (X : Int) 90 W)))
  have HW2 := Lib.hid (fun (W : World) => (by have h := rwhole_any (mkB B) (by rw [mk_size]; have := Kt.pr_short (bs s); rw [hB, bs_length] at this; omega) (by rw [bs_mk]; exact Kt.isNum_all hV2) W; rw [bs_mk, ← hY] at h; exact h : Calls Tryz.prog 36 #[.string (mkB B)] W (GI (Y : Int) 90 W)))
  have HNG := Lib.hid (fun (W : World) (p : Bool) (A : Option Addr) (c : Nat) (l : List Nat) (h : Cn W p A c l (X : Int) 90) => grneg h.iv (by decide))
  have HNW := Lib.hid (fun (W : World) (p : Bool) (A : Option Addr) (c : Nat) (l : List Nat) (q : Bool) (Bb : Option Addr) (d : Nat) (m : List Nat) (h : Cn W p A c l (-(X : Int)) 90) (h' : Cn W q Bb d m (Y : Int) 90) => (grnew0 h.iv h'.iv (by rw [hy]; rfl) (by decide) : Calls Tryz.prog 33 #[.agg #[.bool p, .slice A l.length c], .agg #[.bool q, .slice Bb m.length d]] W fun e w' => e = .returned (.tuple #[.agg #[.bool false, .slice none 0 0, .bool false, .slice none 0 0], .int .i64 3]) ∧ Below W.heap.size W w'))
  clear hX hY hy
  have HS := Lib.hid hs
  clear HBD hk hN hV1 hlD hD hB hs hV2 hZ h45
  go_enter Tryz.func13, Tryz.ntmps13
  go_wp2_with fail
  have t2 : Four (w.alloc (.cells #[.bool false, .slice none 0 0, .bool false, .slice none 0 0] 26)) w.heap.size (.bool false) (.slice none 0 0) (.bool false) (.slice none 0 0) := Four.new_ w (.bool false) (.slice none 0 0) (.bool false) (.slice none 0 0) 26
  have bel : Below w.heap.size w (w.alloc (.cells #[.bool false, .slice none 0 0, .bool false, .slice none 0 0] 26)) := (Below.refl _ _).alloc (Nat.le_refl _) _
  generalize (w.alloc (.cells #[.bool false, .slice none 0 0, .bool false, .slice none 0 0] 26)) = wx at t2 bel ⊢
  go_upto_region 8 with (fail)
  rw [← hd]
  clear hd
  go_wp2_with fail
  go_loopw [5, 6, 7] (fun nv dv iv wr => ∃ (i : Nat) (U V : ByteArray), i ≤ d.size ∧ iv = .int .i64 (i : Int) ∧ nv = .string U ∧ dv = .string V ∧ Hid (PSt d k D B i U V) ∧ Four wr w.heap.size (.bool false) (.slice none 0 0) (.bool false) (.slice none 0 0) ∧ Below w.heap.size w wr) (fun _ _ iv _ => d.size - (intOf iv).toNat)
  case atStart => exact ⟨0, d, ⟨#[49]⟩, Nat.zero_le _, rfl, rfl, rfl, Lib.hid (.inl ⟨Nat.zero_le _, rfl, rfl⟩), t2, bel⟩
  case round =>
    clear t2 bel
    obtain ⟨i, U, V, hi, rfl, rfl, rfl, HST, t2, bel⟩ := hrel
    by_cases hlt : i < d.size
    · have hltI : (i : Int) < (d.size : Int) := by omega
      obtain ⟨x, hx⟩ : ∃ x : Nat, d[i].toNat = x := ⟨_, rfl⟩
      have hix := index_run2 (s := d) (i := i) (x := (x : Int)) hlt (by rw [hx])
      have HJ := Lib.hid (show i + 1 ≤ d.size by omega)
      have hwk : IntKind.i64.wrap ((i : Int) + 1) = ((i + 1 : Nat) : Int) := (IntWalk.i64_in _ (by have := HS.out; omega)).trans (by omega)
      rcases HST.out with ⟨hik, rfl, rfl⟩ | ⟨hik, hU, hV⟩
      · by_cases hikk : i < k
        · have q1 : ((x : Int) == 47) = false := by rw [beq_eq_false_iff_ne, ← hx]; exact ne47 hlt (HL.out.no i hikk)
          have HS2 : Hid (PSt U k D B (i + 1) U ⟨#[49]⟩) := Lib.hid (.inl ⟨hikk, rfl, rfl⟩)
          clear HST hx hik hikk hlt
          go_wp2_with fail
          go_roundw
          case rel => exact ⟨i + 1, U, ⟨#[49]⟩, HJ.out, by first | go_num | rfl, rfl, rfl, HS2, t2, bel⟩
          case measure => (have := HJ.out; first | (simp [intOf]; omega) | (simp [intOf, hwk]; omega))
        · obtain rfl : i = k := by omega
          obtain ⟨e1, e2, e3⟩ := HL.out.cut hlt
          have hx47 : x = 47 := by have := eq47 hlt e1; omega
          subst hx47
          have HS2 : Hid (PSt U i D B (i + 1) (U.extract 0 i) (U.extract (i + 1) U.size)) := Lib.hid (.inr ⟨Nat.lt_succ_self _, e2, e3⟩)
          have w1 : (i : Int) ≤ (U.size : Int) := by omega
          have w2 : (i : Int) + 1 ≤ (U.size : Int) := by omega
          have w3 : ((i : Int) + 1).toNat = i + 1 := by omega
          clear HST hx hik hikk e1 e2 e3 hlt
          go_wp2_with fail
          go_roundw
          case rel => exact ⟨i + 1, _, _, HJ.out, by first | go_num | rfl, rfl, rfl, HS2, t2, bel⟩
          case measure => (have := HJ.out; first | (simp [intOf]; omega) | (simp [intOf, hwk]; omega))
      · have hsz := HL.out.sz (by omega)
        rw [← hU] at hsz
        have q2 : ((U.size : Int) == (d.size : Int)) = false := by rw [beq_eq_false_iff_ne]; omega
        have HS2 : Hid (PSt d k D B (i + 1) U V) := Lib.hid (.inr ⟨by omega, hU, hV⟩)
        clear HST hik hU hV hsz
        by_cases h47 : x = 47
        · have q1 : ((x : Int) == 47) = true := by rw [h47]; rfl
          clear h47 hx hlt
          go_wp2_with fail
          go_roundw
          case rel => exact ⟨i + 1, U, V, HJ.out, by first | go_num | rfl, rfl, rfl, HS2, t2, bel⟩
          case measure => (have := HJ.out; first | (simp [intOf]; omega) | (simp [intOf, hwk]; omega))
        · have q1 : ((x : Int) == 47) = false := by rw [beq_eq_false_iff_ne]; omega
          clear h47 hx hlt
          go_wp2_with fail
          go_roundw
          case rel => exact ⟨i + 1, U, V, HJ.out, by first | go_num | rfl, rfl, rfl, HS2, t2, bel⟩
          case measure => (have := HJ.out; first | (simp [intOf]; omega) | (simp [intOf, hwk]; omega))
    · obtain rfl : i = d.size := by omega
      obtain ⟨rfl, rfl⟩ := HST.out.fin HL.out
      clear HST HL hi hlt
      go_wp2_with fail
      refine (HI1.out _).mono ?_
      rintro e w2 ⟨rfl, hb⟩
      replace t2 := t2.below hb t2.lt
      replace bel := bel.trans (hb.mono bel.size)
      clear hb
      go_wp2_with fail
      refine (HI2.out _).mono ?_
      rintro e w3 ⟨rfl, hb⟩
      replace t2 := t2.below hb t2.lt
      replace bel := bel.trans (hb.mono bel.size)
      clear hb
      go_wp2_with fail
      refine (HW1.out _).mono ?_
      rintro e w4 ⟨p5, A5, c5, l5, rfl, E5, hb⟩
      replace t2 := t2.below hb t2.lt
      replace bel := bel.trans (hb.mono bel.size)
      clear hb
      go_upto_region 17 with (fail)
      have hg8 : w.heap.size < w4.heap.size := t2.lt
      have t8 : Two (w4.alloc (.cells #[.bool p5, .slice A5 l5.length c5] 24)) w4.heap.size (.bool p5) (.slice A5 l5.length c5) := Two.new_ w4 (.bool p5) (.slice A5 l5.length c5) 24
      have bn : Below w4.heap.size w4 (w4.alloc (.cells #[.bool p5, .slice A5 l5.length c5] 24)) := (Below.refl _ _).alloc (Nat.le_refl _) _
      replace t2 := t2.below bn t2.lt
      replace bel := bel.trans (bn.mono bel.size)
      replace E5 := E5.below bn
      clear bn
      generalize (w4.alloc (.cells #[.bool p5, .slice A5 l5.length c5] 24)) = v1 at t2 bel E5 t8 ⊢
      generalize w4.heap.size = g8 at t2 bel E5 t8 hg8 ⊢
      have t8_0 := t8.c0
      have t8_1 := t8.c1
      go_wp2_with fail
      refine (HNG.out _ _ _ _ _ E5).mono ?_
      rintro e w5 ⟨p6, A6, c6, l6, rfl, E6, hb⟩
      clear t8_0 t8_1
      clear E5
      replace t2 := t2.below hb t2.lt
      replace bel := bel.trans (hb.mono bel.size)
      replace t8 := t8.below hb t8.lt
      clear hb
      have t8_0 := t8.c0
      have t8_1 := t8.c1
      have fa := t8.fr 0
      have fb := t8.fr 1
      go_upto_region 19 with (fail)
      clear fa fb
      clear t8_0 t8_1
      replace t2 := t2.far2 (g := g8) (by omega) (.bool p6) (.slice A6 l6.length c6)
      replace bel := below_set2 bel (b := g8) (by omega) (.bool p6) (.slice A6 l6.length c6)
      replace E6 := E6.put2 t8 (.bool p6) (.slice A6 l6.length c6)
      replace t8 := t8.put2 (.bool p6) (.slice A6 l6.length c6)
      dsimp only [set2] at t2 bel t8 E6
      generalize ((w5.setCell ⟨g8, 0, none⟩ (.bool p6)).setCell ⟨g8, 1, none⟩ (.slice A6 l6.length c6)) = v2 at t2 bel t8 E6 ⊢
      replace t2 := t2.drew
      replace bel := bDrew1 bel
      replace t8 := t8.drew
      replace E6 := E6.drew
      go_region_held3 (fun w' => w'.cell? ⟨g8, 0, none⟩ = some (.bool p6) ∧ w'.cell? ⟨g8, 1, none⟩ = some (.slice A6 l6.length c6))
        (first | with_reducible exact ⟨t8.c0, t8.c1⟩ | exact ⟨K0.out.c0, K0.out.c1⟩)
        (first
          | (go_at_call 36; (with_reducible refine (HW2.out _).mono ?_); rintro e wa ⟨p7, A7, c7, l7, rfl, E7, hb⟩; replace t2 := t2.below hb t2.lt; replace bel := bel.trans (hb.mono bel.size); replace t8 := t8.below hb t8.lt; replace E6 := E6.below hb; clear hb)
          | (go_at_call 33; (with_reducible refine (HNW.out _ _ _ _ _ _ _ _ _ E6 E7).mono ?_); rintro e wa ⟨rfl, hb⟩; replace t2 := t2.below hb t2.lt; replace bel := bel.trans (hb.mono bel.size); replace t8 := t8.below hb t8.lt; replace E6 := E6.below hb; clear hb
             have d0 := t2.c0
             have f0 := t2.fr 0
             have d1 := t2.c1
             have f1 := t2.fr 1
             have d2 := t2.c2
             have f2 := t2.fr 2
             have d3 := t2.c3
             have f3 := t2.fr 3
             have K0 := Lib.hid (t8.far4 (g := w.heap.size) (by omega) (.bool false) (.slice none 0 0) (.bool false) (.slice none 0 0))
             have R := Lib.hid (t2.put (.bool false) (.slice none 0 0) (.bool false) (.slice none 0 0))
             have BL := Lib.hid (below_set4 bel (b := w.heap.size) (by omega) (.bool false) (.slice none 0 0) (.bool false) (.slice none 0 0))))
      go_wp2_with fail
      have r0 := R.out.c0
      have r1 := R.out.c1
      have r2 := R.out.c2
      have r3 := R.out.c3
      unfold set4 at r0 r1 r2 r3
      refine bodyPost_ret (v := .tuple #[.agg #[.bool false, .slice none 0 0, .bool false, .slice none 0 0], .int .i64 3]) (by simp [results, Tryz.results13, go_sem, r0, r1, r2, r3]) rfl ?_
      exact ⟨rfl, BL.out⟩

set_option maxRecDepth 100000 in
set_option maxHeartbeats 2000000 in
theorem rparse_zeroF (s : ByteArray) (hs : s.size ≤ 80) {D B : List UInt8} (hD : Kt.prD (bs s) = D) (hB : Kt.prB (bs s) = B) (hN : Kt.negB (bs s) = false) (hp0 : 0 < s.size) (hV1 : Kt.isNum D = true) (hV2 : Kt.isNum B = true) (hy : Kt.valN B = 0) (w : World) :
    Calls Tryz.prog 13 #[.string s] w (PBad 3 w) := by
  have z0 : ¬ (8192 : Int) < (s.size : Int) := by omega
  have hp1 : (0 : Int) < (s.size : Int) := by omega
  have q0 : (((s[0].toNat : Nat) : Int) == 45) = false := by rw [beq_eq_false_iff_ne]; exact head_pos hN hp0
  have HBD : Kt.body (bs s) = bs s := Kt.body_pos hN
  obtain ⟨k, hk⟩ := PLoop.of HBD
  rw [hD, hB] at hk
  have HL := Lib.hid hk
  have hlD : D.length ≤ 90 ∧ B.length ≤ 91 := by have h := Kt.pr_len (bs s); rw [hD, hB, bs_length] at h; omega
  have HI1 := Lib.hid (fun (W : World) => (by have h := rdigits_any (mkB D) (by rw [mk_size]; omega) W; rw [bs_mk, hV1] at h; exact h : Calls Tryz.prog 35 #[.string (mkB D)] W fun e w' => e = .returned (.bool true) ∧ Below W.heap.size W w'))
  have HI2 := Lib.hid (fun (W : World) => (by have h := rdigits_any (mkB B) (by rw [mk_size]; omega) W; rw [bs_mk, hV2] at h; exact h : Calls Tryz.prog 35 #[.string (mkB B)] W fun e w' => e = .returned (.bool true) ∧ Below W.heap.size W w'))
  obtain ⟨X, hX⟩ : ∃ X : Nat, X = Kt.valN D := ⟨_, rfl⟩
  obtain ⟨Y, hY⟩ : ∃ Y : Nat, Y = Kt.valN B := ⟨_, rfl⟩
  rw [← hY] at hy
  have HW1 := Lib.hid (fun (W : World) => (by have h := rwhole_any (mkB D) (by rw [mk_size]; omega) (by rw [bs_mk]; exact Kt.isNum_all hV1) W; rw [bs_mk, ← hX] at h; exact h : Calls Tryz.prog 36 #[.string (mkB D)] W (GI (X : Int) 90 W)))
  have HW2 := Lib.hid (fun (W : World) => (by have h := rwhole_any (mkB B) (by rw [mk_size]; have := Kt.pr_short (bs s); rw [hB, bs_length] at this; omega) (by rw [bs_mk]; exact Kt.isNum_all hV2) W; rw [bs_mk, ← hY] at h; exact h : Calls Tryz.prog 36 #[.string (mkB B)] W (GI (Y : Int) 90 W)))
  have HNW := Lib.hid (fun (W : World) (p : Bool) (A : Option Addr) (c : Nat) (l : List Nat) (q : Bool) (Bb : Option Addr) (d : Nat) (m : List Nat) (h : Cn W p A c l (X : Int) 90) (h' : Cn W q Bb d m (Y : Int) 90) => (grnew0 h.iv h'.iv (by rw [hy]; rfl) (by decide) : Calls Tryz.prog 33 #[.agg #[.bool p, .slice A l.length c], .agg #[.bool q, .slice Bb m.length d]] W fun e w' => e = .returned (.tuple #[.agg #[.bool false, .slice none 0 0, .bool false, .slice none 0 0], .int .i64 3]) ∧ Below W.heap.size W w'))
  clear hX hY hy
  have HS := Lib.hid hs
  clear HBD hk hN hV1 hlD hD hB hs hV2
  go_enter Tryz.func13, Tryz.ntmps13
  go_wp2_with fail
  have t2 : Four (w.alloc (.cells #[.bool false, .slice none 0 0, .bool false, .slice none 0 0] 26)) w.heap.size (.bool false) (.slice none 0 0) (.bool false) (.slice none 0 0) := Four.new_ w (.bool false) (.slice none 0 0) (.bool false) (.slice none 0 0) 26
  have bel : Below w.heap.size w (w.alloc (.cells #[.bool false, .slice none 0 0, .bool false, .slice none 0 0] 26)) := (Below.refl _ _).alloc (Nat.le_refl _) _
  generalize (w.alloc (.cells #[.bool false, .slice none 0 0, .bool false, .slice none 0 0] 26)) = wx at t2 bel ⊢
  go_upto_region 8 with (fail)
  go_wp2_with fail
  go_loopw [5, 6, 7] (fun nv dv iv wr => ∃ (i : Nat) (U V : ByteArray), i ≤ s.size ∧ iv = .int .i64 (i : Int) ∧ nv = .string U ∧ dv = .string V ∧ Hid (PSt s k D B i U V) ∧ Four wr w.heap.size (.bool false) (.slice none 0 0) (.bool false) (.slice none 0 0) ∧ Below w.heap.size w wr) (fun _ _ iv _ => s.size - (intOf iv).toNat)
  case atStart => exact ⟨0, s, ⟨#[49]⟩, Nat.zero_le _, rfl, rfl, rfl, Lib.hid (.inl ⟨Nat.zero_le _, rfl, rfl⟩), t2, bel⟩
  case round =>
    clear t2 bel
    obtain ⟨i, U, V, hi, rfl, rfl, rfl, HST, t2, bel⟩ := hrel
    by_cases hlt : i < s.size
    · have hltI : (i : Int) < (s.size : Int) := by omega
      obtain ⟨x, hx⟩ : ∃ x : Nat, s[i].toNat = x := ⟨_, rfl⟩
      have hix := index_run2 (s := s) (i := i) (x := (x : Int)) hlt (by rw [hx])
      have HJ := Lib.hid (show i + 1 ≤ s.size by omega)
      have hwk : IntKind.i64.wrap ((i : Int) + 1) = ((i + 1 : Nat) : Int) := (IntWalk.i64_in _ (by have := HS.out; omega)).trans (by omega)
      rcases HST.out with ⟨hik, rfl, rfl⟩ | ⟨hik, hU, hV⟩
      · by_cases hikk : i < k
        · have q1 : ((x : Int) == 47) = false := by rw [beq_eq_false_iff_ne, ← hx]; exact ne47 hlt (HL.out.no i hikk)
          have HS2 : Hid (PSt U k D B (i + 1) U ⟨#[49]⟩) := Lib.hid (.inl ⟨hikk, rfl, rfl⟩)
          clear HST hx hik hikk hlt
          go_wp2_with fail
          go_roundw
          case rel => exact ⟨i + 1, U, ⟨#[49]⟩, HJ.out, by first | go_num | rfl, rfl, rfl, HS2, t2, bel⟩
          case measure => (have := HJ.out; first | (simp [intOf]; omega) | (simp [intOf, hwk]; omega))
        · obtain rfl : i = k := by omega
          obtain ⟨e1, e2, e3⟩ := HL.out.cut hlt
          have hx47 : x = 47 := by have := eq47 hlt e1; omega
          subst hx47
          have HS2 : Hid (PSt U i D B (i + 1) (U.extract 0 i) (U.extract (i + 1) U.size)) := Lib.hid (.inr ⟨Nat.lt_succ_self _, e2, e3⟩)
          have w1 : (i : Int) ≤ (U.size : Int) := by omega
          have w2 : (i : Int) + 1 ≤ (U.size : Int) := by omega
          have w3 : ((i : Int) + 1).toNat = i + 1 := by omega
          clear HST hx hik hikk e1 e2 e3 hlt
          go_wp2_with fail
          go_roundw
          case rel => exact ⟨i + 1, _, _, HJ.out, by first | go_num | rfl, rfl, rfl, HS2, t2, bel⟩
          case measure => (have := HJ.out; first | (simp [intOf]; omega) | (simp [intOf, hwk]; omega))
      · have hsz := HL.out.sz (by omega)
        rw [← hU] at hsz
        have q2 : ((U.size : Int) == (s.size : Int)) = false := by rw [beq_eq_false_iff_ne]; omega
        have HS2 : Hid (PSt s k D B (i + 1) U V) := Lib.hid (.inr ⟨by omega, hU, hV⟩)
        clear HST hik hU hV hsz
        by_cases h47 : x = 47
        · have q1 : ((x : Int) == 47) = true := by rw [h47]; rfl
          clear h47 hx hlt
          go_wp2_with fail
          go_roundw
          case rel => exact ⟨i + 1, U, V, HJ.out, by first | go_num | rfl, rfl, rfl, HS2, t2, bel⟩
          case measure => (have := HJ.out; first | (simp [intOf]; omega) | (simp [intOf, hwk]; omega))
        · have q1 : ((x : Int) == 47) = false := by rw [beq_eq_false_iff_ne]; omega
          clear h47 hx hlt
          go_wp2_with fail
          go_roundw
          case rel => exact ⟨i + 1, U, V, HJ.out, by first | go_num | rfl, rfl, rfl, HS2, t2, bel⟩
          case measure => (have := HJ.out; first | (simp [intOf]; omega) | (simp [intOf, hwk]; omega))
    · obtain rfl : i = s.size := by omega
      obtain ⟨rfl, rfl⟩ := HST.out.fin HL.out
      clear HST HL hi hlt
      go_wp2_with fail
      refine (HI1.out _).mono ?_
      rintro e w2 ⟨rfl, hb⟩
      replace t2 := t2.below hb t2.lt
      replace bel := bel.trans (hb.mono bel.size)
      clear hb
      go_wp2_with fail
      refine (HI2.out _).mono ?_
      rintro e w3 ⟨rfl, hb⟩
      replace t2 := t2.below hb t2.lt
      replace bel := bel.trans (hb.mono bel.size)
      clear hb
      go_wp2_with fail
      refine (HW1.out _).mono ?_
      rintro e w4 ⟨p5, A5, c5, l5, rfl, E5, hb⟩
      replace t2 := t2.below hb t2.lt
      replace bel := bel.trans (hb.mono bel.size)
      clear hb
      go_upto_region 17 with (fail)
      have hg8 : w.heap.size < w4.heap.size := t2.lt
      have t8 : Two (w4.alloc (.cells #[.bool p5, .slice A5 l5.length c5] 24)) w4.heap.size (.bool p5) (.slice A5 l5.length c5) := Two.new_ w4 (.bool p5) (.slice A5 l5.length c5) 24
      have bn : Below w4.heap.size w4 (w4.alloc (.cells #[.bool p5, .slice A5 l5.length c5] 24)) := (Below.refl _ _).alloc (Nat.le_refl _) _
      replace t2 := t2.below bn t2.lt
      replace bel := bel.trans (bn.mono bel.size)
      replace E5 := E5.below bn
      clear bn
      generalize (w4.alloc (.cells #[.bool p5, .slice A5 l5.length c5] 24)) = v1 at t2 bel E5 t8 ⊢
      generalize w4.heap.size = g8 at t2 bel E5 t8 hg8 ⊢
      go_upto_region 19 with (fail)
      replace t2 := t2.drew
      replace bel := bDrew1 bel
      replace E5 := E5.drew
      replace t8 := t8.drew
      go_region_held3 (fun w' => w'.cell? ⟨g8, 0, none⟩ = some (.bool p5) ∧ w'.cell? ⟨g8, 1, none⟩ = some (.slice A5 l5.length c5))
        (first | with_reducible exact ⟨t8.c0, t8.c1⟩ | exact ⟨K0.out.c0, K0.out.c1⟩)
        (first
          | (go_at_call 36; (with_reducible refine (HW2.out _).mono ?_); rintro e wa ⟨p7, A7, c7, l7, rfl, E7, hb⟩; replace t2 := t2.below hb t2.lt; replace bel := bel.trans (hb.mono bel.size); replace E5 := E5.below hb; replace t8 := t8.below hb t8.lt; clear hb)
          | (go_at_call 33; (with_reducible refine (HNW.out _ _ _ _ _ _ _ _ _ E5 E7).mono ?_); rintro e wa ⟨rfl, hb⟩; replace t2 := t2.below hb t2.lt; replace bel := bel.trans (hb.mono bel.size); replace E5 := E5.below hb; replace t8 := t8.below hb t8.lt; clear hb
             have d0 := t2.c0
             have f0 := t2.fr 0
             have d1 := t2.c1
             have f1 := t2.fr 1
             have d2 := t2.c2
             have f2 := t2.fr 2
             have d3 := t2.c3
             have f3 := t2.fr 3
             have K0 := Lib.hid (t8.far4 (g := w.heap.size) (by omega) (.bool false) (.slice none 0 0) (.bool false) (.slice none 0 0))
             have R := Lib.hid (t2.put (.bool false) (.slice none 0 0) (.bool false) (.slice none 0 0))
             have BL := Lib.hid (below_set4 bel (b := w.heap.size) (by omega) (.bool false) (.slice none 0 0) (.bool false) (.slice none 0 0))))
      go_wp2_with fail
      have r0 := R.out.c0
      have r1 := R.out.c1
      have r2 := R.out.c2
      have r3 := R.out.c3
      unfold set4 at r0 r1 r2 r3
      refine bodyPost_ret (v := .tuple #[.agg #[.bool false, .slice none 0 0, .bool false, .slice none 0 0], .int .i64 3]) (by simp [results, Tryz.results13, go_sem, r0, r1, r2, r3]) rfl ?_
      exact ⟨rfl, BL.out⟩
end Go.Proofs.YtkpomjdablopaaaGreatDoor
/- Walks of package rational: Parse of the reference, a fraction. -/
namespace Go.Proofs.YtkpomjdablopaaaGreatDoor
open Go.RowKit
set_option linter.unusedVariables false

set_option maxRecDepth 100000 in
set_option maxHeartbeats 2000000 in
theorem rparse_okT (s : ByteArray) (hs : s.size ≤ 80) {D B : List UInt8} (hD : Kt.prD (bs s) = D) (hB : Kt.prB (bs s) = B) (hN : Kt.negB (bs s) = true) (hV1 : Kt.isNum D = true) (hV2 : Kt.isNum B = true) (hZ : (D == [48]) = false) (hy : Kt.valN B ≠ 0) (w : World) :
    Calls Tryz.prog 13 #[.string s] w (GRc (Rat.divInt (-((Kt.valN D : Nat) : Int)) ((Kt.valN B : Nat) : Int)) 90 w) := by
  have z0 : ¬ (8192 : Int) < (s.size : Int) := by omega
  obtain ⟨hp0, h45⟩ := head_neg hN
  have hp1 : (0 : Int) < (s.size : Int) := by omega
  have hp2 : (1 : Int) ≤ (s.size : Int) := by omega
  have q0 : (((s[0].toNat : Nat) : Int) == 45) = true := by rw [h45]; rfl
  obtain ⟨d, hd⟩ : ∃ d, d = s.extract 1 s.size := ⟨_, rfl⟩
  have HBD : Kt.body (bs s) = bs d := by rw [hd]; exact body_ext hN
  have hds : d.size ≤ 90 := by rw [hd, ByteArray.size_extract]; omega
  obtain ⟨k, hk⟩ := PLoop.of HBD
  rw [hD, hB] at hk
  have HL := Lib.hid hk
  have hlD : D.length ≤ 90 ∧ B.length ≤ 91 := by have h := Kt.pr_len (bs s); rw [hD, hB, bs_length] at h; omega
  have HI1 := Lib.hid (fun (W : World) => (by have h := rdigits_any (mkB D) (by rw [mk_size]; omega) W; rw [bs_mk, hV1] at h; exact h : Calls Tryz.prog 35 #[.string (mkB D)] W fun e w' => e = .returned (.bool true) ∧ Below W.heap.size W w'))
  have HI2 := Lib.hid (fun (W : World) => (by have h := rdigits_any (mkB B) (by rw [mk_size]; omega) W; rw [bs_mk, hV2] at h; exact h : Calls Tryz.prog 35 #[.string (mkB B)] W fun e w' => e = .returned (.bool true) ∧ Below W.heap.size W w'))
  have q48 : ((mkB D).toList == [48]) = false := by rw [bs_toList, bs_mk]; exact hZ
  obtain ⟨X, hX⟩ : ∃ X : Nat, X = Kt.valN D := ⟨_, rfl⟩
  obtain ⟨Y, hY⟩ : ∃ Y : Nat, Y = Kt.valN B := ⟨_, rfl⟩
  rw [← hY] at hy
  have HW1 := Lib.hid (fun (W : World) => (by have h := rwhole_any (mkB D) (by rw [mk_size]; omega) (by rw [bs_mk]; exact Kt.isNum_all hV1) W; rw [bs_mk, ← hX] at h; exact h : Calls Tryz.prog 36 #[.string (mkB D)] W (GI (X : Int) 90 W)))
  have HW2 := Lib.hid (fun (W : World) => (by have h := rwhole_any (mkB B) (by rw [mk_size]; have := Kt.pr_short (bs s); rw [hB, bs_length] at this; omega) (by rw [bs_mk]; exact Kt.isNum_all hV2) W; rw [bs_mk, ← hY] at h; exact h : Calls Tryz.prog 36 #[.string (mkB B)] W (GI (Y : Int) 90 W)))
  have HNG := Lib.hid (fun (W : World) (p : Bool) (A : Option Addr) (c : Nat) (l : List Nat) (h : Cn W p A c l (X : Int) 90) => grneg h.iv (by decide))
  obtain ⟨z, hz⟩ : ∃ z, z = Rat.divInt (-(X : Int)) (Y : Int) := ⟨_, rfl⟩
  have HNW := Lib.hid (fun (W : World) (p : Bool) (A : Option Addr) (c : Nat) (l : List Nat) (q : Bool) (Bb : Option Addr) (d : Nat) (m : List Nat) (h : Cn W p A c l (-(X : Int)) 90) (h' : Cn W q Bb d m (Y : Int) 90) => (by have h := grnew h.iv h'.iv (by omega) (by decide) (by decide); rw [← hz] at h; exact h : Calls Tryz.prog 33 #[.agg #[.bool p, .slice A l.length c], .agg #[.bool q, .slice Bb m.length d]] W (GRc z 90 W)))
  rw [← hX, ← hY, ← hz]
  clear hz
  clear hX hY hy
  have HS := Lib.hid hs
  clear HBD hk hN hV1 hlD hD hB hs hV2 hZ h45
  go_enter Tryz.func13, Tryz.ntmps13
  go_wp2_with fail
  have t2 : Four (w.alloc (.cells #[.bool false, .slice none 0 0, .bool false, .slice none 0 0] 26)) w.heap.size (.bool false) (.slice none 0 0) (.bool false) (.slice none 0 0) := Four.new_ w (.bool false) (.slice none 0 0) (.bool false) (.slice none 0 0) 26
  have bel : Below w.heap.size w (w.alloc (.cells #[.bool false, .slice none 0 0, .bool false, .slice none 0 0] 26)) := (Below.refl _ _).alloc (Nat.le_refl _) _
  generalize (w.alloc (.cells #[.bool false, .slice none 0 0, .bool false, .slice none 0 0] 26)) = wx at t2 bel ⊢
  go_upto_region 8 with (fail)
  rw [← hd]
  clear hd
  go_wp2_with fail
  go_loopw [5, 6, 7] (fun nv dv iv wr => ∃ (i : Nat) (U V : ByteArray), i ≤ d.size ∧ iv = .int .i64 (i : Int) ∧ nv = .string U ∧ dv = .string V ∧ Hid (PSt d k D B i U V) ∧ Four wr w.heap.size (.bool false) (.slice none 0 0) (.bool false) (.slice none 0 0) ∧ Below w.heap.size w wr) (fun _ _ iv _ => d.size - (intOf iv).toNat)
  case atStart => exact ⟨0, d, ⟨#[49]⟩, Nat.zero_le _, rfl, rfl, rfl, Lib.hid (.inl ⟨Nat.zero_le _, rfl, rfl⟩), t2, bel⟩
  case round =>
    clear t2 bel
    obtain ⟨i, U, V, hi, rfl, rfl, rfl, HST, t2, bel⟩ := hrel
    by_cases hlt : i < d.size
    · have hltI : (i : Int) < (d.size : Int) := by omega
      obtain ⟨x, hx⟩ : ∃ x : Nat, d[i].toNat = x := ⟨_, rfl⟩
      have hix := index_run2 (s := d) (i := i) (x := (x : Int)) hlt (by rw [hx])
      have HJ := Lib.hid (show i + 1 ≤ d.size by omega)
      have hwk : IntKind.i64.wrap ((i : Int) + 1) = ((i + 1 : Nat) : Int) := (IntWalk.i64_in _ (by have := HS.out; omega)).trans (by omega)
      rcases HST.out with ⟨hik, rfl, rfl⟩ | ⟨hik, hU, hV⟩
      · by_cases hikk : i < k
        · have q1 : ((x : Int) == 47) = false := by rw [beq_eq_false_iff_ne, ← hx]; exact ne47 hlt (HL.out.no i hikk)
          have HS2 : Hid (PSt U k D B (i + 1) U ⟨#[49]⟩) := Lib.hid (.inl ⟨hikk, rfl, rfl⟩)
          clear HST hx hik hikk hlt
          go_wp2_with fail
          go_roundw
          case rel => exact ⟨i + 1, U, ⟨#[49]⟩, HJ.out, by first | go_num | rfl, rfl, rfl, HS2, t2, bel⟩
          case measure => (have := HJ.out; first | (simp [intOf]; omega) | (simp [intOf, hwk]; omega))
        · obtain rfl : i = k := by omega
          obtain ⟨e1, e2, e3⟩ := HL.out.cut hlt
          have hx47 : x = 47 := by have := eq47 hlt e1; omega
          subst hx47
          have HS2 : Hid (PSt U i D B (i + 1) (U.extract 0 i) (U.extract (i + 1) U.size)) := Lib.hid (.inr ⟨Nat.lt_succ_self _, e2, e3⟩)
          have w1 : (i : Int) ≤ (U.size : Int) := by omega
          have w2 : (i : Int) + 1 ≤ (U.size : Int) := by omega
          have w3 : ((i : Int) + 1).toNat = i + 1 := by omega
          clear HST hx hik hikk e1 e2 e3 hlt
          go_wp2_with fail
          go_roundw
          case rel => exact ⟨i + 1, _, _, HJ.out, by first | go_num | rfl, rfl, rfl, HS2, t2, bel⟩
          case measure => (have := HJ.out; first | (simp [intOf]; omega) | (simp [intOf, hwk]; omega))
      · have hsz := HL.out.sz (by omega)
        rw [← hU] at hsz
        have q2 : ((U.size : Int) == (d.size : Int)) = false := by rw [beq_eq_false_iff_ne]; omega
        have HS2 : Hid (PSt d k D B (i + 1) U V) := Lib.hid (.inr ⟨by omega, hU, hV⟩)
        clear HST hik hU hV hsz
        by_cases h47 : x = 47
        · have q1 : ((x : Int) == 47) = true := by rw [h47]; rfl
          clear h47 hx hlt
          go_wp2_with fail
          go_roundw
          case rel => exact ⟨i + 1, U, V, HJ.out, by first | go_num | rfl, rfl, rfl, HS2, t2, bel⟩
          case measure => (have := HJ.out; first | (simp [intOf]; omega) | (simp [intOf, hwk]; omega))
        · have q1 : ((x : Int) == 47) = false := by rw [beq_eq_false_iff_ne]; omega
          clear h47 hx hlt
          go_wp2_with fail
          go_roundw
          case rel => exact ⟨i + 1, U, V, HJ.out, by first | go_num | rfl, rfl, rfl, HS2, t2, bel⟩
          case measure => (have := HJ.out; first | (simp [intOf]; omega) | (simp [intOf, hwk]; omega))
    · obtain rfl : i = d.size := by omega
      obtain ⟨rfl, rfl⟩ := HST.out.fin HL.out
      clear HST HL hi hlt
      go_wp2_with fail
      refine (HI1.out _).mono ?_
      rintro e w2 ⟨rfl, hb⟩
      replace t2 := t2.below hb t2.lt
      replace bel := bel.trans (hb.mono bel.size)
      clear hb
      go_wp2_with fail
      refine (HI2.out _).mono ?_
      rintro e w3 ⟨rfl, hb⟩
      replace t2 := t2.below hb t2.lt
      replace bel := bel.trans (hb.mono bel.size)
      clear hb
      go_wp2_with fail
      refine (HW1.out _).mono ?_
      rintro e w4 ⟨p5, A5, c5, l5, rfl, E5, hb⟩
      replace t2 := t2.below hb t2.lt
      replace bel := bel.trans (hb.mono bel.size)
      clear hb
      go_upto_region 17 with (fail)
      have hg8 : w.heap.size < w4.heap.size := t2.lt
      have t8 : Two (w4.alloc (.cells #[.bool p5, .slice A5 l5.length c5] 24)) w4.heap.size (.bool p5) (.slice A5 l5.length c5) := Two.new_ w4 (.bool p5) (.slice A5 l5.length c5) 24
      have bn : Below w4.heap.size w4 (w4.alloc (.cells #[.bool p5, .slice A5 l5.length c5] 24)) := (Below.refl _ _).alloc (Nat.le_refl _) _
      replace t2 := t2.below bn t2.lt
      replace bel := bel.trans (bn.mono bel.size)
      replace E5 := E5.below bn
      clear bn
      generalize (w4.alloc (.cells #[.bool p5, .slice A5 l5.length c5] 24)) = v1 at t2 bel E5 t8 ⊢
      generalize w4.heap.size = g8 at t2 bel E5 t8 hg8 ⊢
      have t8_0 := t8.c0
      have t8_1 := t8.c1
      go_wp2_with fail
      refine (HNG.out _ _ _ _ _ E5).mono ?_
      rintro e w5 ⟨p6, A6, c6, l6, rfl, E6, hb⟩
      clear t8_0 t8_1
      clear E5
      replace t2 := t2.below hb t2.lt
      replace bel := bel.trans (hb.mono bel.size)
      replace t8 := t8.below hb t8.lt
      clear hb
      have t8_0 := t8.c0
      have t8_1 := t8.c1
      have fa := t8.fr 0
      have fb := t8.fr 1
      go_upto_region 19 with (fail)
      clear fa fb
      clear t8_0 t8_1
      replace t2 := t2.far2 (g := g8) (by omega) (.bool p6) (.slice A6 l6.length c6)
      replace bel := below_set2 bel (b := g8) (by omega) (.bool p6) (.slice A6 l6.length c6)
      replace E6 := E6.put2 t8 (.bool p6) (.slice A6 l6.length c6)
      replace t8 := t8.put2 (.bool p6) (.slice A6 l6.length c6)
      dsimp only [set2] at t2 bel t8 E6
      generalize ((w5.setCell ⟨g8, 0, none⟩ (.bool p6)).setCell ⟨g8, 1, none⟩ (.slice A6 l6.length c6)) = v2 at t2 bel t8 E6 ⊢
      replace t2 := t2.drew
      replace bel := bDrew1 bel
      replace t8 := t8.drew
      replace E6 := E6.drew
      go_region_held3 (fun w' => w'.cell? ⟨g8, 0, none⟩ = some (.bool p6) ∧ w'.cell? ⟨g8, 1, none⟩ = some (.slice A6 l6.length c6))
        (first | with_reducible exact ⟨t8.c0, t8.c1⟩ | exact ⟨K0.out.c0, K0.out.c1⟩)
        (first
          | (go_at_call 36; (with_reducible refine (HW2.out _).mono ?_); rintro e wa ⟨p7, A7, c7, l7, rfl, E7, hb⟩; replace t2 := t2.below hb t2.lt; replace bel := bel.trans (hb.mono bel.size); replace t8 := t8.below hb t8.lt; replace E6 := E6.below hb; clear hb)
          | (go_at_call 33; (with_reducible refine (HNW.out _ _ _ _ _ _ _ _ _ E6 E7).mono ?_); rintro e wa ⟨A9, c9, l9, B9, d9, m9, rfl, CC, hb⟩; replace t2 := t2.below hb t2.lt; replace bel := bel.trans (hb.mono bel.size); replace t8 := t8.below hb t8.lt; replace E6 := E6.below hb; clear hb
             have d0 := t2.c0
             have f0 := t2.fr 0
             have d1 := t2.c1
             have f1 := t2.fr 1
             have d2 := t2.c2
             have f2 := t2.fr 2
             have d3 := t2.c3
             have f3 := t2.fr 3
             have K0 := Lib.hid (t8.far4 (g := w.heap.size) (by omega) (.bool (decide (z.num < 0))) (.slice A9 l9.length c9) (.bool false) (.slice B9 m9.length d9))
             have R := Lib.hid (t2.put (.bool (decide (z.num < 0))) (.slice A9 l9.length c9) (.bool false) (.slice B9 m9.length d9))
             have CR := Lib.hid (CC.put4 t2 (.bool (decide (z.num < 0))) (.slice A9 l9.length c9) (.bool false) (.slice B9 m9.length d9))
             have BL := Lib.hid (below_set4 bel (b := w.heap.size) (by omega) (.bool (decide (z.num < 0))) (.slice A9 l9.length c9) (.bool false) (.slice B9 m9.length d9))))
      go_wp2_with fail
      have r0 := R.out.c0
      have r1 := R.out.c1
      have r2 := R.out.c2
      have r3 := R.out.c3
      unfold set4 at r0 r1 r2 r3
      refine bodyPost_ret (v := .tuple #[.agg #[.bool (decide (z.num < 0)), .slice A9 l9.length c9, .bool false, .slice B9 m9.length d9], .int .i64 0]) (by simp [results, Tryz.results13, go_sem, r0, r1, r2, r3]) rfl ?_
      exact ⟨A9, c9, l9, B9, d9, m9, rfl, CR.out, BL.out⟩

set_option maxRecDepth 100000 in
set_option maxHeartbeats 2000000 in
theorem rparse_okF (s : ByteArray) (hs : s.size ≤ 80) {D B : List UInt8} (hD : Kt.prD (bs s) = D) (hB : Kt.prB (bs s) = B) (hN : Kt.negB (bs s) = false) (hp0 : 0 < s.size) (hV1 : Kt.isNum D = true) (hV2 : Kt.isNum B = true) (hy : Kt.valN B ≠ 0) (w : World) :
    Calls Tryz.prog 13 #[.string s] w (GRc (Rat.divInt ((Kt.valN D : Nat) : Int) ((Kt.valN B : Nat) : Int)) 90 w) := by
  have z0 : ¬ (8192 : Int) < (s.size : Int) := by omega
  have hp1 : (0 : Int) < (s.size : Int) := by omega
  have q0 : (((s[0].toNat : Nat) : Int) == 45) = false := by rw [beq_eq_false_iff_ne]; exact head_pos hN hp0
  have HBD : Kt.body (bs s) = bs s := Kt.body_pos hN
  obtain ⟨k, hk⟩ := PLoop.of HBD
  rw [hD, hB] at hk
  have HL := Lib.hid hk
  have hlD : D.length ≤ 90 ∧ B.length ≤ 91 := by have h := Kt.pr_len (bs s); rw [hD, hB, bs_length] at h; omega
  have HI1 := Lib.hid (fun (W : World) => (by have h := rdigits_any (mkB D) (by rw [mk_size]; omega) W; rw [bs_mk, hV1] at h; exact h : Calls Tryz.prog 35 #[.string (mkB D)] W fun e w' => e = .returned (.bool true) ∧ Below W.heap.size W w'))
  have HI2 := Lib.hid (fun (W : World) => (by have h := rdigits_any (mkB B) (by rw [mk_size]; omega) W; rw [bs_mk, hV2] at h; exact h : Calls Tryz.prog 35 #[.string (mkB B)] W fun e w' => e = .returned (.bool true) ∧ Below W.heap.size W w'))
  obtain ⟨X, hX⟩ : ∃ X : Nat, X = Kt.valN D := ⟨_, rfl⟩
  obtain ⟨Y, hY⟩ : ∃ Y : Nat, Y = Kt.valN B := ⟨_, rfl⟩
  rw [← hY] at hy
  have HW1 := Lib.hid (fun (W : World) => (by have h := rwhole_any (mkB D) (by rw [mk_size]; omega) (by rw [bs_mk]; exact Kt.isNum_all hV1) W; rw [bs_mk, ← hX] at h; exact h : Calls Tryz.prog 36 #[.string (mkB D)] W (GI (X : Int) 90 W)))
  have HW2 := Lib.hid (fun (W : World) => (by have h := rwhole_any (mkB B) (by rw [mk_size]; have := Kt.pr_short (bs s); rw [hB, bs_length] at this; omega) (by rw [bs_mk]; exact Kt.isNum_all hV2) W; rw [bs_mk, ← hY] at h; exact h : Calls Tryz.prog 36 #[.string (mkB B)] W (GI (Y : Int) 90 W)))
  obtain ⟨z, hz⟩ : ∃ z, z = Rat.divInt (X : Int) (Y : Int) := ⟨_, rfl⟩
  have HNW := Lib.hid (fun (W : World) (p : Bool) (A : Option Addr) (c : Nat) (l : List Nat) (q : Bool) (Bb : Option Addr) (d : Nat) (m : List Nat) (h : Cn W p A c l (X : Int) 90) (h' : Cn W q Bb d m (Y : Int) 90) => (by have h := grnew h.iv h'.iv (by omega) (by decide) (by decide); rw [← hz] at h; exact h : Calls Tryz.prog 33 #[.agg #[.bool p, .slice A l.length c], .agg #[.bool q, .slice Bb m.length d]] W (GRc z 90 W)))
  rw [← hX, ← hY, ← hz]
  clear hz
  clear hX hY hy
  have HS := Lib.hid hs
  clear HBD hk hN hV1 hlD hD hB hs hV2
  go_enter Tryz.func13, Tryz.ntmps13
  go_wp2_with fail
  have t2 : Four (w.alloc (.cells #[.bool false, .slice none 0 0, .bool false, .slice none 0 0] 26)) w.heap.size (.bool false) (.slice none 0 0) (.bool false) (.slice none 0 0) := Four.new_ w (.bool false) (.slice none 0 0) (.bool false) (.slice none 0 0) 26
  have bel : Below w.heap.size w (w.alloc (.cells #[.bool false, .slice none 0 0, .bool false, .slice none 0 0] 26)) := (Below.refl _ _).alloc (Nat.le_refl _) _
  generalize (w.alloc (.cells #[.bool false, .slice none 0 0, .bool false, .slice none 0 0] 26)) = wx at t2 bel ⊢
  go_upto_region 8 with (fail)
  go_wp2_with fail
  go_loopw [5, 6, 7] (fun nv dv iv wr => ∃ (i : Nat) (U V : ByteArray), i ≤ s.size ∧ iv = .int .i64 (i : Int) ∧ nv = .string U ∧ dv = .string V ∧ Hid (PSt s k D B i U V) ∧ Four wr w.heap.size (.bool false) (.slice none 0 0) (.bool false) (.slice none 0 0) ∧ Below w.heap.size w wr) (fun _ _ iv _ => s.size - (intOf iv).toNat)
  case atStart => exact ⟨0, s, ⟨#[49]⟩, Nat.zero_le _, rfl, rfl, rfl, Lib.hid (.inl ⟨Nat.zero_le _, rfl, rfl⟩), t2, bel⟩
  case round =>
    clear t2 bel
    obtain ⟨i, U, V, hi, rfl, rfl, rfl, HST, t2, bel⟩ := hrel
    by_cases hlt : i < s.size
    · have hltI : (i : Int) < (s.size : Int) := by omega
      obtain ⟨x, hx⟩ : ∃ x : Nat, s[i].toNat = x := ⟨_, rfl⟩
      have hix := index_run2 (s := s) (i := i) (x := (x : Int)) hlt (by rw [hx])
      have HJ := Lib.hid (show i + 1 ≤ s.size by omega)
      have hwk : IntKind.i64.wrap ((i : Int) + 1) = ((i + 1 : Nat) : Int) := (IntWalk.i64_in _ (by have := HS.out; omega)).trans (by omega)
      rcases HST.out with ⟨hik, rfl, rfl⟩ | ⟨hik, hU, hV⟩
      · by_cases hikk : i < k
        · have q1 : ((x : Int) == 47) = false := by rw [beq_eq_false_iff_ne, ← hx]; exact ne47 hlt (HL.out.no i hikk)
          have HS2 : Hid (PSt U k D B (i + 1) U ⟨#[49]⟩) := Lib.hid (.inl ⟨hikk, rfl, rfl⟩)
          clear HST hx hik hikk hlt
          go_wp2_with fail
          go_roundw
          case rel => exact ⟨i + 1, U, ⟨#[49]⟩, HJ.out, by first | go_num | rfl, rfl, rfl, HS2, t2, bel⟩
          case measure => (have := HJ.out; first | (simp [intOf]; omega) | (simp [intOf, hwk]; omega))
        · obtain rfl : i = k := by omega
          obtain ⟨e1, e2, e3⟩ := HL.out.cut hlt
          have hx47 : x = 47 := by have := eq47 hlt e1; omega
          subst hx47
          have HS2 : Hid (PSt U i D B (i + 1) (U.extract 0 i) (U.extract (i + 1) U.size)) := Lib.hid (.inr ⟨Nat.lt_succ_self _, e2, e3⟩)
          have w1 : (i : Int) ≤ (U.size : Int) := by omega
          have w2 : (i : Int) + 1 ≤ (U.size : Int) := by omega
          have w3 : ((i : Int) + 1).toNat = i + 1 := by omega
          clear HST hx hik hikk e1 e2 e3 hlt
          go_wp2_with fail
          go_roundw
          case rel => exact ⟨i + 1, _, _, HJ.out, by first | go_num | rfl, rfl, rfl, HS2, t2, bel⟩
          case measure => (have := HJ.out; first | (simp [intOf]; omega) | (simp [intOf, hwk]; omega))
      · have hsz := HL.out.sz (by omega)
        rw [← hU] at hsz
        have q2 : ((U.size : Int) == (s.size : Int)) = false := by rw [beq_eq_false_iff_ne]; omega
        have HS2 : Hid (PSt s k D B (i + 1) U V) := Lib.hid (.inr ⟨by omega, hU, hV⟩)
        clear HST hik hU hV hsz
        by_cases h47 : x = 47
        · have q1 : ((x : Int) == 47) = true := by rw [h47]; rfl
          clear h47 hx hlt
          go_wp2_with fail
          go_roundw
          case rel => exact ⟨i + 1, U, V, HJ.out, by first | go_num | rfl, rfl, rfl, HS2, t2, bel⟩
          case measure => (have := HJ.out; first | (simp [intOf]; omega) | (simp [intOf, hwk]; omega))
        · have q1 : ((x : Int) == 47) = false := by rw [beq_eq_false_iff_ne]; omega
          clear h47 hx hlt
          go_wp2_with fail
          go_roundw
          case rel => exact ⟨i + 1, U, V, HJ.out, by first | go_num | rfl, rfl, rfl, HS2, t2, bel⟩
          case measure => (have := HJ.out; first | (simp [intOf]; omega) | (simp [intOf, hwk]; omega))
    · obtain rfl : i = s.size := by omega
      obtain ⟨rfl, rfl⟩ := HST.out.fin HL.out
      clear HST HL hi hlt
      go_wp2_with fail
      refine (HI1.out _).mono ?_
      rintro e w2 ⟨rfl, hb⟩
      replace t2 := t2.below hb t2.lt
      replace bel := bel.trans (hb.mono bel.size)
      clear hb
      go_wp2_with fail
      refine (HI2.out _).mono ?_
      rintro e w3 ⟨rfl, hb⟩
      replace t2 := t2.below hb t2.lt
      replace bel := bel.trans (hb.mono bel.size)
      clear hb
      go_wp2_with fail
      refine (HW1.out _).mono ?_
      rintro e w4 ⟨p5, A5, c5, l5, rfl, E5, hb⟩
      replace t2 := t2.below hb t2.lt
      replace bel := bel.trans (hb.mono bel.size)
      clear hb
      go_upto_region 17 with (fail)
      have hg8 : w.heap.size < w4.heap.size := t2.lt
      have t8 : Two (w4.alloc (.cells #[.bool p5, .slice A5 l5.length c5] 24)) w4.heap.size (.bool p5) (.slice A5 l5.length c5) := Two.new_ w4 (.bool p5) (.slice A5 l5.length c5) 24
      have bn : Below w4.heap.size w4 (w4.alloc (.cells #[.bool p5, .slice A5 l5.length c5] 24)) := (Below.refl _ _).alloc (Nat.le_refl _) _
      replace t2 := t2.below bn t2.lt
      replace bel := bel.trans (bn.mono bel.size)
      replace E5 := E5.below bn
      clear bn
      generalize (w4.alloc (.cells #[.bool p5, .slice A5 l5.length c5] 24)) = v1 at t2 bel E5 t8 ⊢
      generalize w4.heap.size = g8 at t2 bel E5 t8 hg8 ⊢
      go_upto_region 19 with (fail)
      replace t2 := t2.drew
      replace bel := bDrew1 bel
      replace E5 := E5.drew
      replace t8 := t8.drew
      go_region_held3 (fun w' => w'.cell? ⟨g8, 0, none⟩ = some (.bool p5) ∧ w'.cell? ⟨g8, 1, none⟩ = some (.slice A5 l5.length c5))
        (first | with_reducible exact ⟨t8.c0, t8.c1⟩ | exact ⟨K0.out.c0, K0.out.c1⟩)
        (first
          | (go_at_call 36; (with_reducible refine (HW2.out _).mono ?_); rintro e wa ⟨p7, A7, c7, l7, rfl, E7, hb⟩; replace t2 := t2.below hb t2.lt; replace bel := bel.trans (hb.mono bel.size); replace E5 := E5.below hb; replace t8 := t8.below hb t8.lt; clear hb)
          | (go_at_call 33; (with_reducible refine (HNW.out _ _ _ _ _ _ _ _ _ E5 E7).mono ?_); rintro e wa ⟨A9, c9, l9, B9, d9, m9, rfl, CC, hb⟩; replace t2 := t2.below hb t2.lt; replace bel := bel.trans (hb.mono bel.size); replace E5 := E5.below hb; replace t8 := t8.below hb t8.lt; clear hb
             have d0 := t2.c0
             have f0 := t2.fr 0
             have d1 := t2.c1
             have f1 := t2.fr 1
             have d2 := t2.c2
             have f2 := t2.fr 2
             have d3 := t2.c3
             have f3 := t2.fr 3
             have K0 := Lib.hid (t8.far4 (g := w.heap.size) (by omega) (.bool (decide (z.num < 0))) (.slice A9 l9.length c9) (.bool false) (.slice B9 m9.length d9))
             have R := Lib.hid (t2.put (.bool (decide (z.num < 0))) (.slice A9 l9.length c9) (.bool false) (.slice B9 m9.length d9))
             have CR := Lib.hid (CC.put4 t2 (.bool (decide (z.num < 0))) (.slice A9 l9.length c9) (.bool false) (.slice B9 m9.length d9))
             have BL := Lib.hid (below_set4 bel (b := w.heap.size) (by omega) (.bool (decide (z.num < 0))) (.slice A9 l9.length c9) (.bool false) (.slice B9 m9.length d9))))
      go_wp2_with fail
      have r0 := R.out.c0
      have r1 := R.out.c1
      have r2 := R.out.c2
      have r3 := R.out.c3
      unfold set4 at r0 r1 r2 r3
      refine bodyPost_ret (v := .tuple #[.agg #[.bool (decide (z.num < 0)), .slice A9 l9.length c9, .bool false, .slice B9 m9.length d9], .int .i64 0]) (by simp [results, Tryz.results13, go_sem, r0, r1, r2, r3]) rfl ?_
      exact ⟨A9, c9, l9, B9, d9, m9, rfl, CR.out, BL.out⟩
end Go.Proofs.YtkpomjdablopaaaGreatDoor
/- Walks of package rational: Parse of the reference. -/
namespace Go.Proofs.YtkpomjdablopaaaGreatDoor
open Go.RowKit
set_option linter.unusedVariables false

theorem rparse_any (s : ByteArray) (hs : s.size ≤ 80) (w : World) : Calls Tryz.prog 13 #[.string s] w (PR (bs s) w) := by
  have more : ∀ {z : Rat} {e : Ending} {w' : World}, GRc z 90 w e w' → GRc z 100 w e w' := by
    rintro z e w' ⟨A, c, l, B, d, m, he, hc, hb⟩
    exact ⟨A, c, l, B, d, m, he, hc.more_ (by decide), hb⟩
  by_cases h0 : s.size = 0
  · have e0 : bs s = [] := List.eq_nil_of_length_eq_zero (by rw [bs_length]; exact h0)
    have h1 : Kt.isNum (Kt.prD (bs s)) = false := by rw [e0]; rfl
    exact (rparse_bad1E s hs rfl rfl h0 h1 w).mono (fun e w' h => PR.bad (pr_false (.inl h1)) h)
  have hp : 0 < s.size := by omega
  cases h1 : Kt.isNum (Kt.prD (bs s)) with
  | false =>
    refine Calls.mono ?_ (fun e w' h => PR.bad (pr_false (.inl h1)) h)
    cases hN : Kt.negB (bs s) with
    | true => exact rparse_bad1T s hs rfl rfl hN h1 w
    | false => exact rparse_bad1F s hs rfl rfl hN hp h1 w
  | true =>
    cases h2 : Kt.isNum (Kt.prB (bs s)) with
    | false =>
      refine Calls.mono ?_ (fun e w' h => PR.bad (pr_false (.inr (.inl h2))) h)
      cases hN : Kt.negB (bs s) with
      | true => exact rparse_bad2T s hs rfl rfl hN h1 h2 w
      | false => exact rparse_bad2F s hs rfl rfl hN hp h1 h2 w
    | true =>
      cases h3 : (Kt.prN (bs s) && Kt.prD (bs s) == [48]) with
      | true =>
        refine Calls.mono ?_ (fun e w' h => PR.bad (pr_false (.inr (.inr h3))) h)
        rw [Bool.and_eq_true] at h3
        exact rparse_bad3T s hs rfl rfl h3.1 h1 h2 h3.2 w
      | false =>
        have hG := pr_true h1 h2 h3
        by_cases hy : Kt.prY (bs s) = 0
        · refine Calls.mono ?_ (fun e w' h => PR.zero hG hy h)
          cases hN : Kt.negB (bs s) with
          | true => exact rparse_zeroT s hs rfl rfl hN h1 h2 (by unfold Kt.prN at h3; rw [hN, Bool.true_and] at h3; exact h3) hy w
          | false => exact rparse_zeroF s hs rfl rfl hN hp h1 h2 hy w
        · refine Calls.mono ?_ (fun e w' h => PR.ok hG hy h)
          unfold Kt.prX Kt.prY Kt.prN
          cases hN : Kt.negB (bs s) with
          | true => exact (rparse_okT s hs rfl rfl hN h1 h2 (by unfold Kt.prN at h3; rw [hN, Bool.true_and] at h3; exact h3) hy w).mono (fun _ _ h => more h)
          | false => exact (rparse_okF s hs rfl rfl hN hp h1 h2 hy w).mono (fun _ _ h => more h)
end Go.Proofs.YtkpomjdablopaaaGreatDoor
