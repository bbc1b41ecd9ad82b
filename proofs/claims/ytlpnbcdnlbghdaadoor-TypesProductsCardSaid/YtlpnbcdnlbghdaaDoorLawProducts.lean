/- Walk: the law TypesProducts. -/
import Derived.Test.YtlpnbcdnlbghdaaDoorPr
import Derived.Test.YtlpnbcdnlbghdaaDoorKw
import Derived.Test.YtlpnbcdnlbghdaaDoorRe
namespace Go.Proofs.YtlpnbcdnlbghdaaDoor
open Go.RowKit Go.Sort
set_option linter.unusedVariables false

theorem row_one {w : World} {b : Nat} {e : G} (h : Blk w b e.box) : Row w w.heap.size (some ⟨b, 0, none⟩) (G.flat [e]) := ⟨fun _ => ⟨b, 0, rfl, h.lt, fun k u hu => by
  rw [Nat.zero_add]
  refine h.c k ?_
  have e1 : G.flat [e] = e.cells := by unfold G.flat; rw [List.flatMap_cons, List.flatMap_nil, List.append_nil]
  rw [e1] at hu
  show e.cells.toArray[k]? = some u
  simpa using hu⟩⟩
/-- the cells of two types -/
abbrev two (e f : G) : Array Value := #[.int .i64 e.kd, .int .i64 e.lo, .int .i64 e.hi, .int .i64 e.sz, .string e.nm, .slice e.na e.ns.length e.nc, .slice e.ad e.ks.length e.cap, .int .i64 f.kd, .int .i64 f.lo, .int .i64 f.hi, .int .i64 f.sz, .string f.nm, .slice f.na f.ns.length f.nc, .slice f.ad f.ks.length f.cap]
theorem row_two {w : World} {b : Nat} {e f : G} (h : Blk w b (two e f)) : Row w w.heap.size (some ⟨b, 0, none⟩) (G.flat [e, f]) := ⟨fun _ => ⟨b, 0, rfl, h.lt, fun k u hu => by
  rw [Nat.zero_add]
  refine h.c k ?_
  have e1 : G.flat [e, f] = e.cells ++ f.cells := by unfold G.flat; rw [List.flatMap_cons, List.flatMap_cons, List.flatMap_nil, List.append_nil]
  rw [e1] at hu
  show (e.cells ++ f.cells).toArray[k]? = some u
  simpa using hu⟩⟩
theorem row_names {w : World} {b : Nat} {x y : ByteArray} (h : Blk w b #[.string x, .string y]) : Row w w.heap.size (some ⟨b, 0, none⟩) (svals [x, y]) := ⟨fun _ => ⟨b, 0, rfl, h.lt, fun k u hu => by
  rw [Nat.zero_add]
  refine h.c k ?_
  show [Value.string x, .string y].toArray[k]? = some u
  have e1 : svals [x, y] = [Value.string x, .string y] := rfl
  rw [e1] at hu
  simpa using hu⟩⟩
theorem box7p {w : World} {b : Nat} {a0 a1 a2 a3 a4 a5 a6 : Value} (h : Blk w b #[a0, a1, a2, a3, a4, a5, a6]) : w.cell? ⟨b, 0, none⟩ = some a0 ∧ w.cell? ⟨b, 1, none⟩ = some a1 ∧ w.cell? ⟨b, 2, none⟩ = some a2 ∧ w.cell? ⟨b, 3, none⟩ = some a3 ∧ w.cell? ⟨b, 4, none⟩ = some a4 ∧ w.cell? ⟨b, 5, none⟩ = some a5 ∧ w.cell? ⟨b, 6, none⟩ = some a6 :=
  ⟨h.c 0 rfl, h.c 1 rfl, h.c 2 rfl, h.c 3 rfl, h.c 4 rfl, h.c 5 rfl, h.c 6 rfl⟩
theorem i0_ : inI 0 := by unfold inI; omega
theorem arr_in {w : World} {e : G} {rb n : Nat} (h : Blk w rb e.box) (he : G.In w w.heap.size e) (hn : n ≤ 32) : G.In w w.heap.size (.mk 2 0 0 (n : Int) ⟨#[]⟩ none 0 [] (some ⟨rb, 0, none⟩) 1 [e]) := by
  rw [G.in_eq, G.inL_iff]
  refine ⟨⟨by show inI 2; unfold inI; omega, i0_, i0_, by show inI (n : Int); unfold inI; omega, by show (⟨#[]⟩ : ByteArray).size ≤ _; decide, by show 0 ≤ _; omega, fun s hs => absurd hs (by show ¬ s ∈ []; simp), Row.nil _ _ _, by show 1 ≤ _; omega, row_one h⟩, fun k hk => ?_⟩
  have hk' : k ∈ [e] := hk
  simp at hk'
  subst hk'
  exact he
theorem rec_in {w : World} {e f : G} {nb rb : Nat} {x y : ByteArray} (hx : x.size ≤ 100) (hy : y.size ≤ 100) (hN : Blk w nb #[.string x, .string y]) (h : Blk w rb (two e f)) (he : G.In w w.heap.size e) (hf : G.In w w.heap.size f) : G.In w w.heap.size (.mk 3 0 0 0 ⟨#[]⟩ (some ⟨nb, 0, none⟩) 2 [x, y] (some ⟨rb, 0, none⟩) 2 [e, f]) := by
  rw [G.in_eq, G.inL_iff]
  refine ⟨⟨by show inI 3; unfold inI; omega, i0_, i0_, i0_, by show (⟨#[]⟩ : ByteArray).size ≤ _; decide, by show 2 ≤ _; omega, fun s hs => ?_, row_names hN, by show 2 ≤ _; omega, row_two h⟩, fun k hk => ?_⟩
  · have hs' : s ∈ [x, y] := hs
    simp at hs'
    rcases hs' with rfl | rfl <;> omega
  · have hk' : k ∈ [e, f] := hk
    simp at hk'
    rcases hk' with rfl | rfl
    · exact he
    · exact hf
/-- the names x and y -/
abbrev xB : ByteArray := ⟨#[120]⟩
abbrev yB : ByteArray := ⟨#[121]⟩
set_option maxRecDepth 100000 in
set_option maxHeartbeats 8000000 in
theorem products_start (e f : G) (zn : Nat) (hz : zn ≤ 255) (w : World) (he : G.In w w.heap.size e) (hf : G.In w w.heap.size f) (hT : Tb w.heap.size w) :
    Calls Tryd.prog 3 #[e.val, f.val, .int .u8 (zn : Int)] w fun r w' => r = .returned (.bool true) ∧ Below w.heap.size w w' := by
  have X := QW.start w e f 26 26
  have HT := Lib.hid (fun W (i : Below w.heap.size w W) => hT.at i)
  have HIe := Lib.hid (fun W (i : Below w.heap.size w W) => he.at i)
  have HIf := Lib.hid (fun W (i : Below w.heap.size w W) => hf.at i)
  have F1 := Lib.hid (fun W (i : QW w W e f) => few_any e W (he.at i.bel))
  have F2 := Lib.hid (fun W (i : QW w W e f) => few_any f W (hf.at i.bel))
  have V1 := Lib.hid (fun W (i : QW w W e f) => values_any e W (he.at i.bel) (hT.at i.bel))
  have V2 := Lib.hid (fun W (i : QW w W e f) => values_any f W (hf.at i.bel) (hT.at i.bel))
  obtain ⟨m, hm⟩ : ∃ m, Hid (zn % 4 = m) := ⟨_, Lib.hid rfl⟩
  have hm4 : m < 4 := by rw [← hm.out]; exact Nat.mod_lt _ (by decide)
  have f1 : ((zn : Int)).tmod 4 = (m : Int) := by rw [← hm.out]; exact (Int.ofNat_tmod zn 4).symm
  have f1' : (zn : Int) % 4 = (m : Int) := by rw [← hm.out]; rfl
  have e0 : IntKind.i64.wrap (zn : Int) = (zn : Int) := IntWalk.i64_in _ (by omega)
  have e1 : IntKind.i64.wrap (m : Int) = (m : Int) := IntWalk.i64_in _ (by omega)
  obtain ⟨n, hn⟩ : ∃ n, Hid (1 + m = n) := ⟨_, Lib.hid rfl⟩
  have hn4 : n ≤ 4 := by rw [← hn.out]; omega
  have e2 : IntKind.i64.wrap (1 + (m : Int)) = (n : Int) := (IntWalk.i64_in _ (by omega)).trans (by rw [← hn.out]; omega)
  obtain ⟨⟨a, ca⟩, hva⟩ : ∃ v, Hid (G.valR nmB e = v) := ⟨_, Lib.hid rfl⟩
  obtain ⟨⟨b, cb⟩, hvb⟩ : ∃ v, Hid (G.valR nmB f = v) := ⟨_, Lib.hid rfl⟩
  rw [hva.out] at V1
  rw [hvb.out] at V2
  dsimp only at V1 V2
  clear he hf hT hm hn
  go_enter Tryd.func3, Tryd.ntmps3
  go_upto_region 1 with (fail)
  revert X
  generalize (w.alloc (.cells #[.int .i64 e.kd, .int .i64 e.lo, .int .i64 e.hi, .int .i64 e.sz, .string e.nm, .slice e.na e.ns.length e.nc, .slice e.ad e.ks.length e.cap] 26)).alloc (.cells #[.int .i64 f.kd, .int .i64 f.lo, .int .i64 f.hi, .int .i64 f.sz, .string f.nm, .slice f.na f.ns.length f.nc, .slice f.ad f.ks.length f.cap] 26) = w1
  intro X
  go_wp2_with fail
  refine (known_any _ (HT.out _ X.bel)).mono ?_
  rintro r w2 ⟨rfl, b2⟩
  replace X := X.below b2
  clear b2
  obtain ⟨k0, k1, k2, k3, k4, k5, k6⟩ := bx7 X.be
  cases h1 : fewB e with
  | false =>
    rw [h1] at F1
    clear h1
    go_wp2_with fail
    refine (F1.out _ X).mono ?_
    rintro r w3 ⟨rfl, b3⟩
    have b4 := (X.below b3).bel
    go_wp2_with fail
    go_ret
    exact ⟨rfl, b4⟩
  | true =>
    rw [h1] at F1
    clear h1
    go_wp2_with fail
    refine (F1.out _ X).mono ?_
    rintro r w3 ⟨rfl, b3⟩
    replace X := X.below b3
    clear b3 F1 k0 k1 k2 k3 k4 k5 k6
    obtain ⟨m0, m1, m2, m3, m4, m5, m6⟩ := bx7 X.bf
    cases h2 : fewB f with
    | false =>
      rw [h2] at F2
      clear h2
      go_wp2_with fail
      refine (F2.out _ X).mono ?_
      rintro r w4 ⟨rfl, b4⟩
      have b5 := (X.below b4).bel
      go_wp2_with fail
      go_ret
      exact ⟨rfl, b5⟩
    | true =>
      rw [h2] at F2
      clear h2
      go_wp2_with fail
      refine (F2.out _ X).mono ?_
      rintro r w4 ⟨rfl, b4⟩
      replace X := X.below b4
      clear b4 F2 m0 m1 m2 m3 m4 m5 m6
      obtain ⟨k0, k1, k2, k3, k4, k5, k6⟩ := bx7 X.be
      go_wp2_with fail
      refine (V1.out _ X).mono ?_
      rintro r w5 ⟨rfl, b5⟩
      replace X := X.below b5
      clear b5 V1 k0 k1 k2 k3 k4 k5 k6 e0 e1 e2 f1 f1'
      obtain ⟨m0, m1, m2, m3, m4, m5, m6⟩ := bx7 X.bf
      go_wp2_with fail
      refine (V2.out _ X).mono ?_
      rintro r w6 ⟨rfl, b6⟩
      replace X := X.below b6
      have bw := X.bel
      clear b6 V2 m0 m1 m2 m3 m4 m5 m6
      by_cases hca : ca = 0
      case neg =>
        have q1 : (ca != 0) = true := by simpa using hca
        go_wp2_with fail
        go_ret
        exact ⟨rfl, bw⟩
      have q1 : (ca != 0) = false := by rw [hca]; rfl
      by_cases hcb : cb = 0
      case neg =>
        have q2 : (cb != 0) = true := by simpa using hcb
        go_wp2_with fail
        go_ret
        exact ⟨rfl, bw⟩
      have q2 : (cb != 0) = false := by rw [hcb]; rfl
      by_cases ha : 1000 < a
      case pos =>
        go_wp2_with fail
        go_ret
        exact ⟨rfl, bw⟩
      by_cases hb : 1000 < b
      case pos =>
        go_wp2_with fail
        go_ret
        exact ⟨rfl, bw⟩
      obtain ⟨-, ha1, ha2⟩ := G.valR_ok (e := e) (a := a) (by rw [hva.out, hca])
      obtain ⟨-, hb1, hb2⟩ := G.valR_ok (e := f) (a := b) (by rw [hvb.out, hcb])
      have HA := Lib.hid ha1
      have HB := Lib.hid hb1
      clear hca hcb hva hvb ha1 hb1 bw
      obtain ⟨k0, k1, k2, k3, k4, k5, k6⟩ := bx7 X.be
      go_upto_region 11 with (fail)
      have bb1 : Below w6.heap.size w6 ((w6.alloc (.cells e.box 26)).alloc (.cells #[.int .i64 2, .int .i64 0, .int .i64 0, .int .i64 (n : Int), .string ⟨#[]⟩, .slice none 0 0, .slice (some ⟨w6.heap.size, 0, none⟩) 1 1] 26)) := (al1 _ _).alloc (by simp) _
      have BR : Blk ((w6.alloc (.cells e.box 26)).alloc (.cells #[.int .i64 2, .int .i64 0, .int .i64 0, .int .i64 (n : Int), .string ⟨#[]⟩, .slice none 0 0, .slice (some ⟨w6.heap.size, 0, none⟩) 1 1] 26)) w6.heap.size e.box := (Blk.new_ _ _ _).alloc _
      have BA : Blk ((w6.alloc (.cells e.box 26)).alloc (.cells #[.int .i64 2, .int .i64 0, .int .i64 0, .int .i64 (n : Int), .string ⟨#[]⟩, .slice none 0 0, .slice (some ⟨w6.heap.size, 0, none⟩) 1 1] 26)) (w6.heap.size + 1) #[.int .i64 2, .int .i64 0, .int .i64 0, .int .i64 (n : Int), .string ⟨#[]⟩, .slice none 0 0, .slice (some ⟨w6.heap.size, 0, none⟩) 1 1] := by
        have := Blk.new_ (w6.alloc (.cells e.box 26)) #[.int .i64 2, .int .i64 0, .int .i64 0, .int .i64 (n : Int), .string ⟨#[]⟩, .slice none 0 0, .slice (some ⟨w6.heap.size, 0, none⟩) 1 1] 26
        rwa [World.size_alloc] at this
      replace X := X.below bb1
      clear k0 k1 k2 k3 k4 k5 k6 bb1
      revert BR BA X
      generalize (w6.alloc (.cells #[.int .i64 e.kd, .int .i64 e.lo, .int .i64 e.hi, .int .i64 e.sz, .string e.nm, .slice e.na e.ns.length e.nc, .slice e.ad e.ks.length e.cap] 26)).alloc (.cells #[.int .i64 2, .int .i64 0, .int .i64 0, .int .i64 (n : Int), .string ⟨#[]⟩, .slice none 0 0, .slice (some ⟨w6.heap.size, 0, none⟩) 1 1] 26) = w7
      intro BR BA X
      have XA := X.below (al1 w7 (.cells #[.string (⟨#[120]⟩ : ByteArray), .string (⟨#[121]⟩ : ByteArray)] 9))
      obtain ⟨k0, k1, k2, k3, k4, k5, k6⟩ := bx7 XA.be
      obtain ⟨m0, m1, m2, m3, m4, m5, m6⟩ := bx7 XA.bf
      go_upto_region 12 with (fail)
      clear XA
      have bb1 : Below w7.heap.size w7 (((w7.alloc (.cells #[.string xB, .string yB] 9)).alloc (.cells (two e f) 26)).alloc (.cells #[.int .i64 3, .int .i64 0, .int .i64 0, .int .i64 0, .string ⟨#[]⟩, .slice (some ⟨w7.heap.size, 0, none⟩) 2 2, .slice (some ⟨w7.heap.size + 1, 0, none⟩) 2 2] 26)) := ((al1 _ _).alloc (by simp) _).alloc (by simp; omega) _
      have BN : Blk (((w7.alloc (.cells #[.string xB, .string yB] 9)).alloc (.cells (two e f) 26)).alloc (.cells #[.int .i64 3, .int .i64 0, .int .i64 0, .int .i64 0, .string ⟨#[]⟩, .slice (some ⟨w7.heap.size, 0, none⟩) 2 2, .slice (some ⟨w7.heap.size + 1, 0, none⟩) 2 2] 26)) w7.heap.size #[.string xB, .string yB] := ((Blk.new_ _ _ _).alloc _).alloc _
      have BT : Blk (((w7.alloc (.cells #[.string xB, .string yB] 9)).alloc (.cells (two e f) 26)).alloc (.cells #[.int .i64 3, .int .i64 0, .int .i64 0, .int .i64 0, .string ⟨#[]⟩, .slice (some ⟨w7.heap.size, 0, none⟩) 2 2, .slice (some ⟨w7.heap.size + 1, 0, none⟩) 2 2] 26)) (w7.heap.size + 1) (two e f) := by
        have := (Blk.new_ (w7.alloc (.cells #[.string xB, .string yB] 9)) (two e f) 26).alloc (.cells #[.int .i64 3, .int .i64 0, .int .i64 0, .int .i64 0, .string ⟨#[]⟩, .slice (some ⟨w7.heap.size, 0, none⟩) 2 2, .slice (some ⟨w7.heap.size + 1, 0, none⟩) 2 2] 26)
        rwa [World.size_alloc] at this
      have BC : Blk (((w7.alloc (.cells #[.string xB, .string yB] 9)).alloc (.cells (two e f) 26)).alloc (.cells #[.int .i64 3, .int .i64 0, .int .i64 0, .int .i64 0, .string ⟨#[]⟩, .slice (some ⟨w7.heap.size, 0, none⟩) 2 2, .slice (some ⟨w7.heap.size + 1, 0, none⟩) 2 2] 26)) (w7.heap.size + 2) #[.int .i64 3, .int .i64 0, .int .i64 0, .int .i64 0, .string ⟨#[]⟩, .slice (some ⟨w7.heap.size, 0, none⟩) 2 2, .slice (some ⟨w7.heap.size + 1, 0, none⟩) 2 2] := by
        have := Blk.new_ ((w7.alloc (.cells #[.string xB, .string yB] 9)).alloc (.cells (two e f) 26)) #[.int .i64 3, .int .i64 0, .int .i64 0, .int .i64 0, .string ⟨#[]⟩, .slice (some ⟨w7.heap.size, 0, none⟩) 2 2, .slice (some ⟨w7.heap.size + 1, 0, none⟩) 2 2] 26
        rwa [World.size_alloc, World.size_alloc] at this
      replace X := X.below bb1
      replace BR := BR.below bb1 BR.lt
      replace BA := BA.below bb1 BA.lt
      clear k0 k1 k2 k3 k4 k5 k6 m0 m1 m2 m3 m4 m5 m6 bb1
      revert BR BA X BN BT BC
      generalize ((w7.alloc (.cells #[.string xB, .string yB] 9)).alloc (.cells (two e f) 26)).alloc (.cells #[.int .i64 3, .int .i64 0, .int .i64 0, .int .i64 0, .string ⟨#[]⟩, .slice (some ⟨w7.heap.size, 0, none⟩) 2 2, .slice (some ⟨w7.heap.size + 1, 0, none⟩) 2 2] 26) = w8
      intro BN BT BC X BR BA
      have hIa := arr_in (n := n) BR (HIe.out _ X.bel) (by omega)
      have hIr := rec_in (x := xB) (y := yB) (by decide) (by decide) BN BT (HIe.out _ X.bel) (HIf.out _ X.bel)
      have PA : Hid (G.pw (.mk 2 0 0 (n : Int) ⟨#[]⟩ none 0 [] (some ⟨w6.heap.size, 0, none⟩) 1 [e]) = G.pow a n) := Lib.hid (by rw [G.pw_array, ← HA.out])
      have PR : Hid (G.pw (.mk 3 0 0 0 ⟨#[]⟩ (some ⟨w7.heap.size, 0, none⟩) 2 [xB, yB] (some ⟨w7.heap.size + 1, 0, none⟩) 2 [e, f]) = a * b) := Lib.hid (by rw [G.pw_record, ← HA.out, ← HB.out])
      have hpn := G.pow_le ha2 (by omega) n hn4
      have hab : a * b ≤ 1000 * 1000 := Int.mul_le_mul (by omega) (by omega) (by omega) (by decide)
      have hab1 : 0 ≤ a * b := Int.mul_nonneg (by omega) (by omega)
      obtain ⟨ra1, ra2⟩ := G.valR_of PA.out (by omega)
      obtain ⟨rr1, rr2⟩ := G.valR_of PR.out (by omega)
      have bk : Below w8.heap.size w8 w8 := Below.refl _ _
      have HT8 := Lib.hid (fun W (i : Below w8.heap.size w8 W) => HT.out W (bTrans X.bel i))
      have VA := Lib.hid (fun W (i : Below w8.heap.size w8 W) => values_any _ W (hIa.at i) (HT8.out W i))
      have VR := Lib.hid (fun W (i : Below w8.heap.size w8 W) => values_any _ W (hIr.at i) (HT8.out W i))
      have CA := Lib.hid (fun W (i : Below w8.heap.size w8 W) => tcheck_any _ W (hIa.at i) (HT8.out W i))
      have CR := Lib.hid (fun W (i : Below w8.heap.size w8 W) => tcheck_any _ W (hIr.at i) (HT8.out W i))
      obtain ⟨⟨p, ga⟩, hpa⟩ : ∃ v, Hid (G.valR nmB (.mk 2 0 0 (n : Int) ⟨#[]⟩ none 0 [] (some ⟨w6.heap.size, 0, none⟩) 1 [e]) = v) := ⟨_, Lib.hid rfl⟩
      obtain ⟨⟨q, gr⟩, hpr⟩ : ∃ v, Hid (G.valR nmB (.mk 3 0 0 0 ⟨#[]⟩ (some ⟨w7.heap.size, 0, none⟩) 2 [xB, yB] (some ⟨w7.heap.size + 1, 0, none⟩) 2 [e, f]) = v) := ⟨_, Lib.hid rfl⟩
      rw [hpa.out] at VA ra1 ra2
      rw [hpr.out] at VR rr1 rr2
      rw [← ra1] at CA ra2
      rw [← rr1] at CR rr2
      dsimp only at VA VR CA CR ra2 rr2
      obtain ⟨P, hP⟩ : ∃ P, Hid (G.pow a n = P) := ⟨_, Lib.hid rfl⟩
      have hw1 : IntKind.i64.wrap (a * b) = a * b := IntWalk.i64_in _ (by omega)
      have QA : (ga != 0) = true ∨ (ga != 0) = false ∧ (p == P) = true := by
        by_cases h : ga = 0
        · right; exact ⟨by rw [h]; rfl, by rw [ra2 h, hP.out]; exact beq_self_eq_true _⟩
        · left; simpa using h
      have QR : (gr != 0) = true ∨ (gr != 0) = false ∧ (q == a * b) = true := by
        by_cases h : gr = 0
        · right; exact ⟨by rw [h]; rfl, by rw [rr2 h]; exact beq_self_eq_true _⟩
        · left; simpa using h
      have hga : (ga == ga) = true := beq_self_eq_true _
      have hgr : (gr == gr) = true := beq_self_eq_true _
      have HPW := Lib.hid (fun i (hi : i < n) => show 1 ≤ G.pow a i ∧ IntKind.i64.wrap (G.pow a i * a) = G.pow a (i + 1) from by
        have h1 := G.pow_pos ha2 i
        have h2 := G.pow_pos ha2 (i + 1)
        have h3 := G.pow_le ha2 (by omega) (i + 1) (by omega)
        refine ⟨h1, ?_⟩
        show IntKind.i64.wrap (G.pow a (i + 1)) = _
        exact IntWalk.i64_in _ (by omega))
      obtain ⟨ab, hab2⟩ : ∃ x, a * b = x := ⟨_, rfl⟩
      have HAB := Lib.hid hw1
      clear hIa hIr PA PR hpn hab hab1 ra1 ra2 rr1 rr2 hpa hpr BR BN BT HA HB ha hb ha2 hb2 q1 q2 HT8 HIe HIf HT hab2 hw1
      go_wp2_with fail
      go_loopw [14, 67] (fun pv iv wr => ∃ i : Nat, i ≤ n ∧ iv = .int .i64 (i : Int) ∧ pv = .int .i64 (G.pow a i) ∧ Below w8.heap.size w8 wr) (fun _ iv _ => n - (intOf iv).toNat)
      case atStart => exact ⟨0, Nat.zero_le _, rfl, rfl, bk⟩
      case round =>
        clear bk
        obtain ⟨i, hi, rfl, rfl, bk⟩ := hrel
        by_cases hlt : i < n
        · obtain ⟨-, hpw⟩ := HPW.out i hlt
          clear HPW QA QR VA VR CA CR BA BC X
          go_wp2_with fail
          go_roundw
          case rel => exact ⟨i + 1, by omega, by go_num, rfl, bk⟩
          case measure => simp [intOf]; omega
        · obtain rfl : i = n := by omega
          have hPi := hP.out
          rw [hPi]
          have BA2 := BA.below bk BA.lt
          have BC2 := BC.below bk BC.lt
          have bX := X.bel
          clear hPi HPW BA BC X hP
          obtain ⟨k0, k1, k2, k3, k4, k5, k6⟩ := box7p BA2
          go_wp2_with fail
          refine (VA.out _ bk).mono ?_
          rintro r w9 ⟨rfl, b9⟩
          have bk2 := bTrans bk b9
          replace BA2 := BA2.below b9 BA2.lt
          replace BC2 := BC2.below b9 BC2.lt
          clear k0 k1 k2 k3 k4 k5 k6 b9 VA
          obtain ⟨k0, k1, k2, k3, k4, k5, k6⟩ := box7p BC2
          go_wp2_with fail
          refine (VR.out _ bk2).mono ?_
          rintro r w10 ⟨rfl, b10⟩
          have bk3 := bTrans bk2 b10
          replace BA2 := BA2.below b10 BA2.lt
          replace BC2 := BC2.below b10 BC2.lt
          clear k0 k1 k2 k3 k4 k5 k6 b10 VR bk2 bk
          obtain ⟨k0, k1, k2, k3, k4, k5, k6⟩ := box7p BA2
          have hmul := HAB.out
          rcases QA with qa | ⟨qa, qa'⟩
          · rcases QR with qr | ⟨qr, qr'⟩
            · go_wp2_with fail
              refine (CA.out _ bk3).mono ?_
              rintro r w11 ⟨rfl, b11⟩
              have bk4 := bTrans bk3 b11
              replace BC2 := BC2.below b11 BC2.lt
              clear k0 k1 k2 k3 k4 k5 k6 b11 CA
              obtain ⟨k0, k1, k2, k3, k4, k5, k6⟩ := box7p BC2
              go_wp2_with fail
              refine (CR.out _ bk4).mono ?_
              rintro r w12 ⟨rfl, b12⟩
              have b13 := bTrans bX (bTrans bk4 b12)
              go_wp2_with fail
              go_ret
              exact ⟨rfl, b13⟩
            · go_wp2_with fail
              refine (CA.out _ bk3).mono ?_
              rintro r w11 ⟨rfl, b11⟩
              have bk4 := bTrans bk3 b11
              replace BC2 := BC2.below b11 BC2.lt
              clear k0 k1 k2 k3 k4 k5 k6 b11 CA
              obtain ⟨k0, k1, k2, k3, k4, k5, k6⟩ := box7p BC2
              go_wp2_with fail
              refine (CR.out _ bk4).mono ?_
              rintro r w12 ⟨rfl, b12⟩
              have b13 := bTrans bX (bTrans bk4 b12)
              go_wp2_with fail
              go_ret
              exact ⟨rfl, b13⟩
          · rcases QR with qr | ⟨qr, qr'⟩
            · go_wp2_with fail
              refine (CA.out _ bk3).mono ?_
              rintro r w11 ⟨rfl, b11⟩
              have bk4 := bTrans bk3 b11
              replace BC2 := BC2.below b11 BC2.lt
              clear k0 k1 k2 k3 k4 k5 k6 b11 CA
              obtain ⟨k0, k1, k2, k3, k4, k5, k6⟩ := box7p BC2
              go_wp2_with fail
              refine (CR.out _ bk4).mono ?_
              rintro r w12 ⟨rfl, b12⟩
              have b13 := bTrans bX (bTrans bk4 b12)
              go_wp2_with fail
              go_ret
              exact ⟨rfl, b13⟩
            · go_wp2_with fail
              refine (CA.out _ bk3).mono ?_
              rintro r w11 ⟨rfl, b11⟩
              have bk4 := bTrans bk3 b11
              replace BC2 := BC2.below b11 BC2.lt
              clear k0 k1 k2 k3 k4 k5 k6 b11 CA
              obtain ⟨k0, k1, k2, k3, k4, k5, k6⟩ := box7p BC2
              go_wp2_with fail
              refine (CR.out _ bk4).mono ?_
              rintro r w12 ⟨rfl, b12⟩
              have b13 := bTrans bX (bTrans bk4 b12)
              go_wp2_with fail
              go_ret
              exact ⟨rfl, b13⟩
theorem products_walk (e f : G) (zn : Nat) (w : World) (he : G.In w w.heap.size e) (hf : G.In w w.heap.size f) (hz : zn ≤ 255) (hT : Tb w.heap.size w) :
    Calls Tryd.prog 3 #[e.val, f.val, .int .u8 (zn : Int)] w fun r w' => r = .returned (.bool true) ∧ Below w.heap.size w w' := products_start e f zn hz w he hf hT
theorem u8_nat {z : Int} (h : (Lit.int .u8 z).wf = true) : ∃ n : Nat, n ≤ 255 ∧ z = (n : Int) := by
  have : 0 ≤ z ∧ z ≤ 255 := by simpa [Lit.wf, IntKind.min, IntKind.max, IntKind.signed, IntKind.bits] using h
  exact ⟨z.toNat, by omega, by omega⟩
end Go.Proofs.YtlpnbcdnlbghdaaDoor
