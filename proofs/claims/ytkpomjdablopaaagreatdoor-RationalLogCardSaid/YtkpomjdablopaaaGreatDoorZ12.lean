/- My texts, packed: R3, R4, Row2, Row3, Rp, Rr, Wj, Rt. -/
import Derived.Test.YtkpomjdablopaaaGreatDoorZ11
import Derived.Lib.SmallJoins
import Derived.Test.YtkpomjdablopaaaGreatDoorZ5
import Derived.Lay
import Derived.Deep.DeepWitnessRowRef
import Derived.Shelf.Vars
import Derived.Test.YtkpomjdablopaaaGreatDoorZ8
/- Walks of package rational: number. -/
namespace Go.Proofs.YtkpomjdablopaaaGreatDoor
open Go.RowKit
set_option linter.unusedVariables false

/-- the length of a string -/
def strL : Value → Nat
  | .string s => s.size
  | _ => 0
theorem ext_take (d : ByteArray) (k : Nat) : bs (d.extract 0 k) = (bs d).take k := by
  show (d.extract 0 k).data.toList = d.data.toList.take k
  rw [ByteArray.data_extract]; simp
theorem ext_drop (d : ByteArray) (k : Nat) : bs (d.extract k d.size) = (bs d).drop k := by
  show (d.extract k d.size).data.toList = d.data.toList.drop k
  rw [ByteArray.data_extract, show d.size = d.data.size from rfl]; simp
  exact List.take_of_length_le (by rw [List.length_drop, Array.length_toList]; exact Nat.le_refl _)
theorem atoi_num (s : ByteArray) (v : Int) (h : Lib.atoiAll (bs s) = .ok v) (hs : s.size ≤ 1000000) (W : World) : Calls Tryz.prog 61 #[.string s] W fun e w' => e = .returned (.tuple #[.int .i64 v, .nilIface]) ∧ Below W.heap.size W w' := by
  refine (Tryz.strconv_Atoi_ok s (by omega) v h W).mono ?_
  rintro e w' ⟨rfl, rfl | ⟨t, rfl⟩⟩
  · exact ⟨rfl, Below.refl _ _⟩
  · exact ⟨rfl, Joins.below_bytesWorld _ _ _ _ (Nat.le_refl _)⟩
section
variable {W : World} {p q : Bool} {A B : Option Addr} {c d : Nat} {l m : List Nat} {x y : Int} {n k : Nat}
theorem gmulL (h1 : Iv W p A c l x n) (h2 : Iv W q B d m y k) (hn : n ≤ 10000000) (hk : k ≤ 10000000) : Calls Tryz.prog 62 #[.agg #[.bool p, .slice A l.length c], .agg #[.bool q, .slice B m.length d]] W (GI (x * y) (n + k) W) := by
  have h := mul_any p A c l q B d m W h1.sl h2.sl (by have := h1.len; omega) (by have := h2.len; omega)
  rw [h1.val, h2.val] at h
  exact h.mono fun _ _ hr => GI.of hr (by rw [Int.natAbs_mul, Kn.pw_add]; exact Nat.mul_lt_mul'' h1.abs h2.abs)
theorem gaddL (h1 : Iv W p A c l x n) (h2 : Iv W q B d m y k) (hn : n ≤ 10000000) (hk : k ≤ 10000000) : Calls Tryz.prog 49 #[.agg #[.bool p, .slice A l.length c], .agg #[.bool q, .slice B m.length d]] W (GI (x + y) (max n k + 1) W) := by
  have h := add_any p A c l q B d m W h1.sl h2.sl (by have := h1.len; omega) (by have := h2.len; omega)
  rw [h1.val, h2.val] at h
  exact h.mono fun _ _ hr => GI.of hr (by have := pw_max h1.abs h2.abs; omega)
theorem cn_re (h : Cn W p A c l x n) (hx : x.natAbs < Kn.pw k) : Cn W p A c l x k := ⟨⟨h.iv.sl, h.iv.val, by rw [h.can.2]; exact Kn.dig_len_le hx⟩, h.can⟩
end

set_option maxRecDepth 100000 in
set_option maxHeartbeats 4000000 in
theorem number_any (s : ByteArray) (hs : s.size ≤ 100000) (hd : (bs s).all Kt.digC = true) (w : World) :
    Calls Tryz.prog 27 #[.string s] w (GI ((Kt.valN (bs s) : Nat) : Int) s.size w) := by
  obtain ⟨n, hn⟩ : ∃ n, n = s.size := ⟨_, rfl⟩
  have hlen : (bs s).length = n := by rw [bs_length, hn]
  obtain ⟨D, hD⟩ : ∃ D, D = bs s := ⟨_, rfl⟩
  have hsD : s = mkB (D.drop 0) := by rw [hD, List.drop_zero, mk_bs]
  rw [← hD] at hlen hd ⊢
  rw [← hn] at hs ⊢
  have HLEN := Lib.hid hlen
  have HDG := Lib.hid hd
  have HSD := Lib.hid hsD
  have HPW : Hid (∀ j, Kt.valN (D.take j) < Kn.pw n) := Lib.hid (fun j => by
    have h1 := Kt.valN_lt (D.take j) (List.all_eq_true.2 fun x hx => List.all_eq_true.1 hd x (List.mem_of_mem_take hx))
    have h2 : 10 ^ (D.take j).length ≤ 10 ^ n := Nat.pow_le_pow_right (by decide) (by rw [List.length_take]; omega)
    have h3 : 10 ^ n ≤ Kn.pw n := Nat.pow_le_pow_left (by decide) n
    omega)
  have HSC := Lib.hid (fun W => gofi (a := 1000000000000000000) (by omega) W)
  have HPS : Hid (∃ z : Int, z = 1000000000000000000) := Lib.hid ⟨_, rfl⟩
  clear hlen hd hsD hD hn
  go_enter Tryz.func27, Tryz.ntmps27
  go_wp2_with fail
  have t2 : Two ((w.alloc (.cells #[.bool false, .slice none 0 0] 24)).alloc (.cells #[.bool false, .slice none 0 0] 24)) w.heap.size (.bool false) (.slice none 0 0) := (Two.new_ w (.bool false) (.slice none 0 0) 24).alloc _
  have t3 : Two ((w.alloc (.cells #[.bool false, .slice none 0 0] 24)).alloc (.cells #[.bool false, .slice none 0 0] 24)) (w.heap.size + 1) (.bool false) (.slice none 0 0) := by simpa only [World.size_alloc, Nat.add_assoc, Nat.reduceAdd] using Two.new_ (w.alloc (.cells #[.bool false, .slice none 0 0] 24)) (.bool false) (.slice none 0 0) 24
  have bel : Below w.heap.size w ((w.alloc (.cells #[.bool false, .slice none 0 0] 24)).alloc (.cells #[.bool false, .slice none 0 0] 24)) := ((Below.refl _ _).alloc (Nat.le_refl _) _).alloc (by simp only [World.size_alloc]; omega) _
  generalize ((w.alloc (.cells #[.bool false, .slice none 0 0] 24)).alloc (.cells #[.bool false, .slice none 0 0] 24)) = wx at t2 t3 bel ⊢
  refine (HSC.out _).mono ?_
  rintro e w2 ⟨p1, A1, c1, l1, rfl, C1, hb⟩
  replace t2 := t2.below hb t2.lt
  replace t3 := t3.below hb t3.lt
  replace bel := bel.trans (hb.mono bel.size)
  clear hb
  obtain rfl : p1 = false := C1.can.1
  go_wp2_with fail
  have hg4 : w.heap.size + 1 < w2.heap.size := t3.lt
  have t4 : Two (w2.alloc (.cells #[.bool false, .slice A1 l1.length c1] 24)) w2.heap.size (.bool false) (.slice A1 l1.length c1) := Two.new_ w2 (.bool false) (.slice A1 l1.length c1) 24
  have bn : Below w2.heap.size w2 (w2.alloc (.cells #[.bool false, .slice A1 l1.length c1] 24)) := (Below.refl _ _).alloc (Nat.le_refl _) _
  replace t2 := t2.below bn t2.lt
  replace t3 := t3.below bn t3.lt
  replace bel := bel.trans (bn.mono bel.size)
  replace C1 := C1.below bn
  clear bn
  generalize (w2.alloc (.cells #[.bool false, .slice A1 l1.length c1] 24)) = v1 at t2 t3 bel C1 t4 ⊢
  generalize w2.heap.size = g4 at t2 t3 bel C1 t4 hg4 ⊢
  have HC0 : Cn v1 false none 0 [] ((Kt.valN (D.take 0) : Nat) : Int) n := ⟨⟨Sl.nil _ _, rfl, Nat.zero_le _⟩, rfl, Kn.dig_zero.symm⟩
  go_loopw [0] (fun v wr => ∃ j A c l, j ≤ n ∧ v = .string (mkB (D.drop j)) ∧ Two wr w.heap.size (.bool false) (.slice none 0 0) ∧ Two wr (w.heap.size + 1) (.bool false) (.slice A l.length c) ∧ Two wr g4 (.bool false) (.slice A1 l1.length c1) ∧ Cn wr false A c l ((Kt.valN (D.take j) : Nat) : Int) n ∧ Cn wr false A1 c1 l1 1000000000000000000 2 ∧ Below w.heap.size w wr ∧ Hid (j = 0 ∨ (n - j) % 18 = 0)) (fun v _ => strL v)
  case atStart => exact ⟨0, none, 0, [], Nat.zero_le _, by rw [← HSD.out], t2, t3, t4, HC0, C1, bel, Lib.hid (Or.inl rfl)⟩
  case round =>
    obtain ⟨j, A, c, l, hj, rfl, t2, t3, t4, CX, CS, bel, HJ⟩ := hrel
    obtain ⟨d, hd⟩ : ∃ d, d = mkB (D.drop j) := ⟨_, rfl⟩
    have hds : d.size = n - j := by rw [hd, mk_size, List.length_drop, HLEN.out]
    rw [← hd]
    have hdL : bs d = D.drop j := by rw [hd, bs_mk]
    by_cases hlt : j < n
    · obtain ⟨k, hk⟩ : ∃ k, k = (n - j - 1) % 18 := ⟨_, rfl⟩
      have hk2 : k + 1 ≤ n - j := by rw [hk]; have := Nat.mod_le (n - j - 1) 18; omega
      have hk18 : k ≤ 17 := by omega
      have HK : Hid (n - (j + (k + 1)) = (n - j - 1) / 18 * 18) := Lib.hid (by have := Nat.div_add_mod (n - j - 1) 18; omega)
      have e1 : ((d.size : Int) - 1) % 18 = (k : Int) := by rw [hds]; omega
      have z0 : (1 : Int) ≤ (d.size : Int) := by rw [hds]; omega
      have z1 : (k : Int) + 1 ≤ (d.size : Int) := by rw [hds]; omega
      have z2 : k + 1 ≤ d.size := by omega
      have z3 : d.size ≤ 100000 := by omega
      have z4 : (d.size : Int) ≤ 100000 := by omega
      have e2 : ((k : Int) + 1).toNat = k + 1 := by omega
      have q1 : d.toList.isEmpty = false := by rw [bs_toList]; cases hh : bs d with | nil => (rw [hdL] at hh; have := congrArg List.length hh; rw [List.length_drop, HLEN.out] at this; simp at this; omega) | cons _ _ => rfl
      obtain ⟨G, hG⟩ : ∃ G, G = (D.drop j).take (k + 1) := ⟨_, rfl⟩
      have hGl : G.length = k + 1 := by rw [hG, List.length_take, List.length_drop, HLEN.out]; omega
      have hGd : G.all Kt.digC = true := by rw [hG]; exact List.all_eq_true.2 fun x hx => List.all_eq_true.1 HDG.out x (List.mem_of_mem_drop (List.mem_of_mem_take hx))
      have hx1 : d.extract 0 (k + 1) = mkB G := bs_inj (by rw [bs_mk, hG, ← hdL]; exact ext_take d (k + 1))
      have hx2 : d.extract (k + 1) d.size = mkB (D.drop (j + (k + 1))) := bs_inj (by rw [bs_mk, ← List.drop_drop, ← hdL]; exact ext_drop d (k + 1))
      have hat := Kt.atoi_short (l := G) (by intro e; rw [e] at hGl; cases hGl) hGd (by omega)
      obtain ⟨v, hv⟩ : ∃ v, v = Kt.valN G := ⟨_, rfl⟩
      have hv2 : v < 1000000000000000000 := by
        have h1 := Kt.valN_lt G hGd
        have h2 : 10 ^ G.length ≤ 10 ^ 18 := Nat.pow_le_pow_right (by decide) (by omega)
        rw [hv]; exact Nat.lt_of_lt_of_le h1 h2
      rw [← hv] at hat
      have HAT := Lib.hid (fun (W : World) => atoi_num (d.extract 0 (k + 1)) (v : Int) (by rw [hx1, bs_mk]; exact hat) (by rw [hx1, mk_size]; omega) W)
      have HOF := Lib.hid (fun W => gofi (a := (v : Int)) (by omega) W)
      obtain ⟨X, hX⟩ : ∃ X, X = Kt.valN (D.take j) := ⟨_, rfl⟩
      rw [← hX] at CX
      have HMU := Lib.hid (fun (W : World) (h : Cn W false A c l (X : Int) n) (h' : Cn W false A1 c1 l1 1000000000000000000 2) => gmulL h.iv h'.iv (by omega) (by omega))
      have HAD := Lib.hid (fun (W : World) (p3 : Bool) (A3 : Option Addr) (c3 : Nat) (l3 : List Nat) (p5 : Bool) (A5 : Option Addr) (c5 : Nat) (l5 : List Nat) (h : Cn W p3 A3 c3 l3 ((X : Int) * 1000000000000000000) (n + 2)) (h' : Cn W p5 A5 c5 l5 (v : Int) 2) => gaddL h.iv h'.iv (by omega) (by omega))
      have hval : (X : Int) * 1000000000000000000 + (v : Int) = ((Kt.valN (D.take (j + (k + 1))) : Nat) : Int) := by
        have e : D.take (j + (k + 1)) = D.take j ++ G := by rw [hG, List.take_add]
        rw [e, Kt.valN_app, hGl, ← hX, ← hv]
        rcases HJ.out with h0 | h18
        · subst h0
          have hX0 : X = 0 := by rw [hX, List.take_zero]; rfl
          rw [hX0]; omega
        · have hk17 : k = 17 := by omega
          rw [hk17]; omega
      have HVAL := Lib.hid hval
      have HX2 := Lib.hid hx2
      have HDS := Lib.hid hds
      clear hval hx1 hx2 hat hv hv2 hG hGl hGd hX hk hdL hd HJ
      clear hds
      go_wp2_with fail
      refine (HAT.out _).mono ?_
      rintro e w2 ⟨rfl, hb⟩
      replace t2 := t2.below hb t2.lt
      replace t3 := t3.below hb t3.lt
      replace t4 := t4.below hb t4.lt
      replace CX := CX.below hb
      replace CS := CS.below hb
      replace bel := bel.trans (hb.mono bel.size)
      clear hb
      have t3_0 := t3.c0
      have t3_1 := t3.c1
      have t4_0 := t4.c0
      have t4_1 := t4.c1
      go_wp2_with fail
      refine (HMU.out _ CX CS).mono ?_
      rintro e w3 ⟨p3, A3, c3, l3, rfl, C3, hb⟩
      clear t3_0 t3_1 t4_0 t4_1
      clear CX
      replace t2 := t2.below hb t2.lt
      replace t3 := t3.below hb t3.lt
      replace t4 := t4.below hb t4.lt
      replace CS := CS.below hb
      replace bel := bel.trans (hb.mono bel.size)
      clear hb
      go_wp2_with fail
      refine (HOF.out _).mono ?_
      rintro e w4 ⟨p5, A5, c5, l5, rfl, C5, hb⟩
      replace t2 := t2.below hb t2.lt
      replace t3 := t3.below hb t3.lt
      replace t4 := t4.below hb t4.lt
      replace CS := CS.below hb
      replace bel := bel.trans (hb.mono bel.size)
      replace C3 := C3.below hb
      clear hb
      go_wp2_with fail
      refine (HAD.out _ _ _ _ _ _ _ _ _ C3 C5).mono ?_
      rintro e w5 ⟨p6, A6, c6, l6, rfl, C6, hb⟩
      clear C3 C5
      replace t2 := t2.below hb t2.lt
      replace t3 := t3.below hb t3.lt
      replace t4 := t4.below hb t4.lt
      replace CS := CS.below hb
      replace bel := bel.trans (hb.mono bel.size)
      clear hb
      obtain rfl : p6 = false := by rw [C6.can.1, HVAL.out]; exact decide_eq_false (by omega)
      have t3_0 := t3.c0
      have t3_1 := t3.c1
      have f0 := t3.fr 0
      have f1 := t3.fr 1
      have C7 : Cn _ false A6 c6 l6 ((Kt.valN (D.take (j + (k + 1))) : Nat) : Int) n := cn_re (by rw [← HVAL.out]; exact C6) (by rw [Int.natAbs_natCast]; exact HPW.out _)
      have Kt2 := Lib.hid (t2.far2 (g := w.heap.size + 1) (by omega) (.bool false) (.slice A6 l6.length c6))
      have Kt4 := Lib.hid (t4.far2 (g := w.heap.size + 1) (by have := hg4; omega) (.bool false) (.slice A6 l6.length c6))
      have KT := Lib.hid (t3.put2 (.bool false) (.slice A6 l6.length c6))
      have KX := Lib.hid (C7.put2 t3 (.bool false) (.slice A6 l6.length c6))
      have KS := Lib.hid (CS.put2 t3 (.bool false) (.slice A6 l6.length c6))
      have KB := Lib.hid (below_set2 bel (b := w.heap.size + 1) (by omega) (.bool false) (.slice A6 l6.length c6))
      clear t2 t4 t3 C6 C7 CS bel
      go_wp2_with fail
      go_roundw
      case rel => exact ⟨j + (k + 1), A6, c6, l6, by omega, by rw [← HX2.out], Kt2.out, KT.out, Kt4.out, KX.out, KS.out, KB.out, Lib.hid (Or.inr (by rw [HK.out]; exact Nat.mul_mod_left _ _))⟩
      case measure => first | (simp [strL]; omega) | (show (d.extract (k + 1) d.size).size < d.size; rw [ByteArray.size_extract]; omega)
    · obtain rfl : j = n := by omega
      have q1 : d.toList.isEmpty = true := by rw [bs_toList, hdL, List.drop_eq_nil_of_le (by rw [HLEN.out]; exact Nat.le_refl _)]; rfl
      have HVV : Hid (D.take j = D) := Lib.hid (by rw [← HLEN.out]; exact List.take_length)
      clear hdL hds hd
      have a0 := t3.c0
      have a1 := t3.c1
      have b0 := t2.c0
      have b1 := t2.c1
      have f0 := t2.fr 0
      have f1 := t2.fr 1
      have KT := Lib.hid (t2.put2 (.bool false) (.slice A l.length c))
      have KX := Lib.hid (CX.put2 t2 (.bool false) (.slice A l.length c))
      have KB := Lib.hid (below_set2 bel (b := w.heap.size) (by omega) (.bool false) (.slice A l.length c))
      clear t2 t3 t4 CX CS bel
      go_wp2_with fail
      have r0 := KT.out.c0
      have r1 := KT.out.c1
      unfold set2 at r0 r1
      refine bodyPost_ret (v := .agg #[.bool false, .slice A l.length c]) (by simp [results, Tryz.results27, go_sem, r0, r1]) rfl ?_
      exact ⟨false, A, c, l, rfl, by have h := KX.out; rw [HVV.out] at h; exact h, KB.out⟩
end Go.Proofs.YtkpomjdablopaaaGreatDoor
/- Walks of package rational: Parse, errors. -/
namespace Go.Proofs.YtkpomjdablopaaaGreatDoor
open Go.RowKit
set_option linter.unusedVariables false

/-- the library's longest index, whatever it is -/
def Mx (w : World) : Prop := ∃ m, w.cell? ⟨2, 0, none⟩ = some (.int .i64 m)
theorem Mx.below_ {w w' : World} (h : Mx w) (hb : Below w.heap.size w w') : Mx w' := by
  obtain ⟨m, h1⟩ := h; exact ⟨m, (hb.cell (p := ⟨2, 0, none⟩) (World.block_lt_of_cell? w _ h1)).trans h1⟩

theorem GI.more_ {z : Int} {n k : Nat} {W W' : World} {e : Ending} (h : GI z n W e W') (hn : n ≤ k) : GI z k W e W' := by
  obtain ⟨p, A, c, l, he, hc, hb⟩ := h
  exact ⟨p, A, c, l, he, ⟨hc.iv.more hn, hc.can⟩, hb⟩

set_option maxRecDepth 100000 in
set_option maxHeartbeats 800000 in
theorem parse_long {s : ByteArray} (hs : 8192 < s.size) (w : World) :
    Calls Tryz.prog 9 #[.string s] w fun e w' => e = .returned (.tuple #[ratV false none 0 0 false none 0 0, .int .i64 5]) ∧ Below w.heap.size w w' := by
  unfold ratV
  have z0 : (8192 : Int) < (s.size : Int) := by omega
  clear hs
  go_enter Tryz.func9, Tryz.ntmps9
  have t2 := Four.new_ w (.bool false) (.slice none 0 0) (.bool false) (.slice none 0 0) 26
  have bel := al1 w (.cells #[.bool false, .slice none 0 0, .bool false, .slice none 0 0] 26)
  have d0 := t2.c0
  have f0 := t2.fr 0
  have d1 := t2.c1
  have f1 := t2.fr 1
  have d2 := t2.c2
  have f2 := t2.fr 2
  have d3 := t2.c3
  have f3 := t2.fr 3
  have BL := Lib.hid bel
  clear t2 bel
  go_wp2_with fail
  refine bodyPost_ret (v := .tuple #[.agg #[.bool false, .slice none 0 0, .bool false, .slice none 0 0], .int .i64 5]) (by simp [results, Tryz.results9, go_sem]) rfl ?_
  exact ⟨rfl, BL.out⟩
end Go.Proofs.YtkpomjdablopaaaGreatDoor
/- From a walk to a row: what the laws of rational read of the library's variables. -/
namespace Go.Proofs.YtkpomjdablopaaaGreatDoor
open Go.ChangeShapes Go.WideShapes Go.ChangeAt Go.RowKit
set_option linter.unusedVariables false

/-- the list of the row -/
abbrev laidL : List (String × DataW Unit) := [("math/bits.deBruijn32tab", Rows.laid_math_bits_deBruijn32tab), ("math/bits.deBruijn64tab", Rows.laid_math_bits_deBruijn64tab), ("internal/strconv.uint64pow10", Rows.laid_internal_strconv_uint64pow10), ("unicode/utf8.acceptRanges", Rows.laid_unicode_utf8_acceptRanges), ("strconv.ErrRange", Rows.laid_strconv_ErrRange), ("strconv.ErrSyntax", Rows.laid_strconv_ErrSyntax), ("unicode/utf8.first", Rows.laid_unicode_utf8_first)]
/-- MaxLen out of the world's shape -/
theorem mx_of_shape {W : World} (hsh : W.ShapedOpen Tryz.prog) : Mx W :=
  Go.Proofs.cell_of_shapedOpen_int (zero := #[.int .i64 0]) (t := 3) hsh (of_decide_eq_true (by kernel_rfl)) (by kernel_rfl) rfl (by kernel_rfl) (by kernel_rfl) Tryz.underlying3
/-- a start: the settled world, the listed variables as their initialisers lay them -/
noncomputable def laidWorldT (os : Os) : World := World.laidAll Tryz.prog os laidL
theorem laidL_met (os : Os) (args : Array Value) : laidMet Tryz.prog laidL ((laidWorldT os).forCall (fun _ _ => 0) ⟨#[], args, []⟩).memory := laidMet_laidAll args (by kernel_rfl) (by kernel_rfl)
theorem laidL_shape (os : Os) (args : Array Value) : ((laidWorldT os).forCall (fun _ _ => 0) ⟨#[], args, []⟩).variablesRefB Tryz.prog = true := by kernel_rfl
theorem laidL_rest (os : Os) (args : Array Value) : (((laidWorldT os).forCall (fun _ _ => 0) ⟨#[], args, []⟩).heap.toList.drop Tryz.prog.globals.size).take ((begin Tryz.prog (fun _ _ => 0) default).world.heap.size - Tryz.prog.globals.size) =
      (begin Tryz.prog (fun _ _ => 0) default).world.heap.toList.drop Tryz.prog.globals.size := by kernel_rfl
end Go.Proofs.YtkpomjdablopaaaGreatDoor
/- From a walk to a row: arguments that are fractions. -/
namespace Go.Proofs.YtkpomjdablopaaaGreatDoor
open Go.ChangeShapes Go.WideShapes Go.ChangeAt Go.RowKit
set_option linter.unusedVariables false

theorem cellsRat : Tryz.prog.cellsOf 26 = 4 := by kernel_rfl
theorem cellsSlU : Tryz.prog.cellsOf 22 = 1 := by kernel_rfl
section
variable {H : Type} {enc : TypeId × Value → H}
set_option maxRecDepth 100000 in
/-- two cells that are an integer -/
theorem int_of_cells {W : World} {n : Nat} {c0 c1 : Value} {y : DataW H × List MemPlace} (h : DataW.trod enc Tryz.prog W 0 (fun _ => true) true n 24 [c0, c1] = some y) :
    ∃ ng A ws c, c0 = .bool ng ∧ c1 = .slice A ws.length c ∧ Sl W W.heap.size A c ws := by
  obtain ⟨z0, z1, k, _, _, g0, g1⟩ := trod_struct2 Tryz.underlying24 h
  have h0 : DataW.trod enc Tryz.prog W 0 (fun _ => true) true k 4 [c0] = some z0 := by simpa [cellsBool] using g0
  have h1 : DataW.trod enc Tryz.prog W 0 (fun _ => true) true k 22 [c1] = some z1 := by simpa [cellsSlU] using g1
  obtain ⟨a, e0, _⟩ := DataW.trod_bool Tryz.underlying4 h0
  simp only [List.cons.injEq, and_true] at e0
  subst e0
  rcases open_ints Tryz.underlying22 Tryz.underlying88 cellsU32 h1 with ⟨e1, _⟩ | ⟨ad, len, cap, zs, e1, _, hl, _, hz, _, hc, hw⟩
  · simp only [List.cons.injEq, and_true] at e1
    subst e1
    exact ⟨a, none, [], 0, rfl, rfl, Sl.nil _ _⟩
  · simp only [List.cons.injEq, and_true] at e1
    subst e1
    have hzl : zs.length = cap := by simpa using hz
    have hwz : ∀ i, i < zs.length → 0 ≤ zs.getD i 0 ∧ zs.getD i 0 < 4294967296 := fun i hi => by
      have h2 := hw (zs.getD i 0) (by rw [List.getD_eq_getElem?_getD, List.getElem?_eq_getElem hi]; exact List.getElem_mem hi)
      have := (show 0 ≤ zs.getD i 0 ∧ zs.getD i 0 ≤ 4294967295 by simpa [Lit.wf, IntKind.min, IntKind.max, IntKind.signed, IntKind.bits] using h2)
      omega
    obtain ⟨ws, hws⟩ : ∃ ws : List Nat, ws = (List.range len).map fun i => (zs.getD i 0).toNat := ⟨_, rfl⟩
    have hlen : ws.length = len := by rw [hws]; simp
    have hget : ∀ i, i < len → ws[i]? = some (zs.getD i 0).toNat := fun i hi => by rw [hws, List.getElem?_map, List.getElem?_range hi]; rfl
    refine ⟨a, some ad, ws, cap, rfl, by rw [hlen], ⟨⟨⟨fun hp => ?_⟩⟩, ?_, by rw [hlen]; exact hl, fun e => by cases e⟩⟩
    · have hp' : 0 < len := by rw [List.length_map, hlen] at hp; exact hp
      obtain ⟨b, off, rfl, hc'⟩ := ints_at hc (by omega)
      refine ⟨b, off, rfl, World.block_lt_of_cell? W _ (hc' 0 (by omega)), fun k u hu => ?_⟩
      have hk : k < len := by
        have := (List.getElem?_eq_some_iff.1 hu).1
        rw [List.length_map, hlen] at this; exact this
      rw [List.getElem?_map, hget k hk] at hu
      simp only [Option.map_some, Option.some.injEq] at hu
      subst hu
      rw [hc' k (by omega), Int.toNat_of_nonneg (hwz k (by omega)).1]
    · intro x hx
      rw [hws] at hx
      obtain ⟨i, hi, rfl⟩ := List.mem_map.1 hx
      have := hwz i (by have := List.mem_range.1 hi; omega)
      omega
set_option maxRecDepth 100000 in
/-- an argument that is a fraction -/
theorem open_rat {W : World} {base : Nat} {v : Value} {d : DataW H} {p : List MemPlace} (hv : Value.okWide Tryz.prog W .any base 26 v) (h : DataW.Trod enc Tryz.prog W 0 (fun _ => true) true 26 v d p) :
    ∃ s A w c t B u e, v = ratV s A w.length c t B u.length e ∧ Sl W W.heap.size A c w ∧ Sl W W.heap.size B e u := by
  obtain ⟨cs, rfl, hsz⟩ := okWide_struct Tryz.underlying26 hv
  obtain ⟨c0, c1, c2, c3, rfl⟩ := Joins.array4 (hsz.trans cellsRat)
  obtain ⟨fuel, hf⟩ := h
  obtain ⟨y0, y1, n, _, _, h0, h1⟩ := trod_struct2 Tryz.underlying26 hf
  have g0 : DataW.trod enc Tryz.prog W 0 (fun _ => true) true n 24 [c0, c1] = some y0 := by simpa [Value.cells, cellsInt24] using h0
  have g1 : DataW.trod enc Tryz.prog W 0 (fun _ => true) true n 24 [c2, c3] = some y1 := by simpa [Value.cells, cellsInt24] using h1
  obtain ⟨s, A, w, c, rfl, rfl, ha⟩ := int_of_cells g0
  obtain ⟨t, B, u, e, rfl, rfl, hb⟩ := int_of_cells g1
  exact ⟨s, A, w, c, t, B, u, e, rfl, ha, hb⟩
theorem cellsFrac : Tryz.prog.cellsOf 40 = 2 := by kernel_rfl
set_option maxRecDepth 100000 in
/-- an argument that is a small fraction -/
theorem open_frac {W : World} {base : Nat} {v : Value} {d : DataW H} {p : List MemPlace} (hv : Value.okWide Tryz.prog W .any base 40 v) (h : DataW.Trod enc Tryz.prog W 0 (fun _ => true) true 40 v d p) :
    ∃ a b : Int, v = .agg #[.int .i64 a, .int .i64 b] ∧ (-9223372036854775808 ≤ a ∧ a ≤ 9223372036854775807) ∧ (-9223372036854775808 ≤ b ∧ b ≤ 9223372036854775807) := by
  obtain ⟨c0, c1, y0, y1, n, rfl, rfl, rfl, h0, h1⟩ := Joins.open_agg2 Tryz.underlying40 (by kernel_rfl) cellsFrac hv h
  obtain ⟨a, e0, _, ha⟩ := DataW.trod_int Tryz.underlying3 h0
  obtain ⟨b, e1, _, hb⟩ := DataW.trod_int Tryz.underlying3 h1
  simp only [List.cons.injEq, and_true] at e0 e1
  subst e0 e1
  exact ⟨a, b, rfl, by simpa [Lit.wf, IntKind.min, IntKind.max, IntKind.signed, IntKind.bits] using ha, by simpa [Lit.wf, IntKind.min, IntKind.max, IntKind.signed, IntKind.bits] using hb⟩
end
end Go.Proofs.YtkpomjdablopaaaGreatDoor
/- Walks of package rational: common. -/
namespace Go.Proofs.YtkpomjdablopaaaGreatDoor
open Go.RowKit
set_option linter.unusedVariables false

/-- two numerators over one denominator above 0 -/
def Cm (za zb : Rat) (n : Nat) (W : World) (e : Ending) (W' : World) : Prop :=
  ∃ p A c l q B d m r C f o x y u, e = .returned (.tuple #[.agg #[.bool p, .slice A l.length c], .agg #[.bool q, .slice B m.length d], .agg #[.bool r, .slice C o.length f]]) ∧ Cn W' p A c l x n ∧ Cn W' q B d m y n ∧ Cn W' r C f o u n ∧ 0 < u ∧ Rat.divInt x u = za ∧ Rat.divInt y u = zb ∧ Below W.heap.size W W'

theorem Cn.more_ {W : World} {p : Bool} {A : Option Addr} {c : Nat} {l : List Nat} {x : Int} {n k : Nat} (h : Cn W p A c l x n) (hn : n ≤ k) : Cn W p A c l x k := ⟨h.iv.more hn, h.can⟩

set_option maxRecDepth 100000 in
set_option maxHeartbeats 3000000 in
theorem gcommon {x y x' y' : Int} {n k : Nat} {p : Bool} {A : Option Addr} {c : Nat} {l : List Nat} {q : Bool} {B : Option Addr} {d : Nat} {m : List Nat} {p' : Bool} {A' : Option Addr} {c' : Nat} {l' : List Nat} {q' : Bool} {B' : Option Addr} {d' : Nat} {m' : List Nat} {w : World}
    (h1 : Iv w p A c l x n) (h2 : Iv w q B d m y n) (h3 : Iv w p' A' c' l' x' k) (h4 : Iv w q' B' d' m' y' k) (hn : n ≤ 49) (hn1 : 1 ≤ n) (hk : k ≤ 49) (hk1 : 1 ≤ k) :
    Calls Tryz.prog 47 #[ratV p A l.length c q B m.length d, ratV p' A' l'.length c' q' B' m'.length d'] w (Cm (Rat.divInt x y) (Rat.divInt x' y') (n + k) w) := by
  obtain ⟨za, hza⟩ : ∃ z, z = Rat.divInt x y := ⟨_, rfl⟩
  obtain ⟨zb, hzb⟩ : ∃ z, z = Rat.divInt x' y' := ⟨_, rfl⟩
  rw [← hza, ← hzb]
  have HR1 := Lib.hid (fun (W : World) (h1 : Iv W p A c l x n) (h2 : Iv W q B d m y n) => (by have h := gratio h1 h2 (by omega) hn1; rw [← hza] at h; exact h : Calls Tryz.prog 39 #[.agg #[.bool p, .slice A l.length c, .bool q, .slice B m.length d]] W (Ra za n W)))
  have HR2 := Lib.hid (fun (W : World) (h1 : Iv W p' A' c' l' x' k) (h2 : Iv W q' B' d' m' y' k) => (by have h := gratio h1 h2 (by omega) hk1; rw [← hzb] at h; exact h : Calls Tryz.prog 39 #[.agg #[.bool p', .slice A' l'.length c', .bool q', .slice B' m'.length d']] W (Ra zb k W)))
  have HN := Lib.hid hn
  have HK := Lib.hid hk
  clear hza hzb hn hn1 hk hk1
  unfold ratV
  go_enter Tryz.func47, Tryz.ntmps47
  go_wp2_with fail
  have t1 : Four (((((w.alloc (.cells #[.bool p, .slice A l.length c, .bool q, .slice B m.length d] 26)).alloc (.cells #[.bool p', .slice A' l'.length c', .bool q', .slice B' m'.length d'] 26)).alloc (.cells #[.bool false, .slice none 0 0] 24)).alloc (.cells #[.bool false, .slice none 0 0] 24)).alloc (.cells #[.bool false, .slice none 0 0] 24)) w.heap.size (.bool p) (.slice A l.length c) (.bool q) (.slice B m.length d) := ((((Four.new_ w (.bool p) (.slice A l.length c) (.bool q) (.slice B m.length d) 26).alloc _).alloc _).alloc _).alloc _
  have t2 : Four (((((w.alloc (.cells #[.bool p, .slice A l.length c, .bool q, .slice B m.length d] 26)).alloc (.cells #[.bool p', .slice A' l'.length c', .bool q', .slice B' m'.length d'] 26)).alloc (.cells #[.bool false, .slice none 0 0] 24)).alloc (.cells #[.bool false, .slice none 0 0] 24)).alloc (.cells #[.bool false, .slice none 0 0] 24)) (w.heap.size + 1) (.bool p') (.slice A' l'.length c') (.bool q') (.slice B' m'.length d') := by simpa only [World.size_alloc, Nat.add_assoc, Nat.reduceAdd] using (((Four.new_ (w.alloc (.cells #[.bool p, .slice A l.length c, .bool q, .slice B m.length d] 26)) (.bool p') (.slice A' l'.length c') (.bool q') (.slice B' m'.length d') 26).alloc _).alloc _).alloc _
  have t3 : Two (((((w.alloc (.cells #[.bool p, .slice A l.length c, .bool q, .slice B m.length d] 26)).alloc (.cells #[.bool p', .slice A' l'.length c', .bool q', .slice B' m'.length d'] 26)).alloc (.cells #[.bool false, .slice none 0 0] 24)).alloc (.cells #[.bool false, .slice none 0 0] 24)).alloc (.cells #[.bool false, .slice none 0 0] 24)) (w.heap.size + 2) (.bool false) (.slice none 0 0) := by simpa only [World.size_alloc, Nat.add_assoc, Nat.reduceAdd] using ((Two.new_ ((w.alloc (.cells #[.bool p, .slice A l.length c, .bool q, .slice B m.length d] 26)).alloc (.cells #[.bool p', .slice A' l'.length c', .bool q', .slice B' m'.length d'] 26)) (.bool false) (.slice none 0 0) 24).alloc _).alloc _
  have t4 : Two (((((w.alloc (.cells #[.bool p, .slice A l.length c, .bool q, .slice B m.length d] 26)).alloc (.cells #[.bool p', .slice A' l'.length c', .bool q', .slice B' m'.length d'] 26)).alloc (.cells #[.bool false, .slice none 0 0] 24)).alloc (.cells #[.bool false, .slice none 0 0] 24)).alloc (.cells #[.bool false, .slice none 0 0] 24)) (w.heap.size + 3) (.bool false) (.slice none 0 0) := by simpa only [World.size_alloc, Nat.add_assoc, Nat.reduceAdd] using (Two.new_ (((w.alloc (.cells #[.bool p, .slice A l.length c, .bool q, .slice B m.length d] 26)).alloc (.cells #[.bool p', .slice A' l'.length c', .bool q', .slice B' m'.length d'] 26)).alloc (.cells #[.bool false, .slice none 0 0] 24)) (.bool false) (.slice none 0 0) 24).alloc _
  have t5 : Two (((((w.alloc (.cells #[.bool p, .slice A l.length c, .bool q, .slice B m.length d] 26)).alloc (.cells #[.bool p', .slice A' l'.length c', .bool q', .slice B' m'.length d'] 26)).alloc (.cells #[.bool false, .slice none 0 0] 24)).alloc (.cells #[.bool false, .slice none 0 0] 24)).alloc (.cells #[.bool false, .slice none 0 0] 24)) (w.heap.size + 4) (.bool false) (.slice none 0 0) := by simpa only [World.size_alloc, Nat.add_assoc, Nat.reduceAdd] using Two.new_ ((((w.alloc (.cells #[.bool p, .slice A l.length c, .bool q, .slice B m.length d] 26)).alloc (.cells #[.bool p', .slice A' l'.length c', .bool q', .slice B' m'.length d'] 26)).alloc (.cells #[.bool false, .slice none 0 0] 24)).alloc (.cells #[.bool false, .slice none 0 0] 24)) (.bool false) (.slice none 0 0) 24
  have bel : Below w.heap.size w (((((w.alloc (.cells #[.bool p, .slice A l.length c, .bool q, .slice B m.length d] 26)).alloc (.cells #[.bool p', .slice A' l'.length c', .bool q', .slice B' m'.length d'] 26)).alloc (.cells #[.bool false, .slice none 0 0] 24)).alloc (.cells #[.bool false, .slice none 0 0] 24)).alloc (.cells #[.bool false, .slice none 0 0] 24)) := (((((Below.refl _ _).alloc (Nat.le_refl _) _).alloc (by simp only [World.size_alloc]; omega) _).alloc (by simp only [World.size_alloc]; omega) _).alloc (by simp only [World.size_alloc]; omega) _).alloc (by simp only [World.size_alloc]; omega) _
  generalize (((((w.alloc (.cells #[.bool p, .slice A l.length c, .bool q, .slice B m.length d] 26)).alloc (.cells #[.bool p', .slice A' l'.length c', .bool q', .slice B' m'.length d'] 26)).alloc (.cells #[.bool false, .slice none 0 0] 24)).alloc (.cells #[.bool false, .slice none 0 0] 24)).alloc (.cells #[.bool false, .slice none 0 0] 24)) = wx at t1 t2 t3 t4 t5 bel ⊢
  have X := h1.below bel
  have Y := h2.below bel
  have t1_0 := t1.c0
  have t1_1 := t1.c1
  have t1_2 := t1.c2
  have t1_3 := t1.c3
  go_wp2_with fail
  refine (HR1.out _ X Y).mono ?_
  rintro e w2 ⟨p1, A1, c1, l1, q1, B1, d1, m1, x1, y1, rfl, X1, Y1, h01, hz1, hb⟩
  clear t1_0 t1_1 t1_2 t1_3
  clear t1
  replace t2 := t2.below hb t2.lt
  replace t3 := t3.below hb t3.lt
  replace t4 := t4.below hb t4.lt
  replace t5 := t5.below hb t5.lt
  replace bel := bel.trans (hb.mono bel.size)
  clear hb
  have H01 := Lib.hid h01
  have HZ1 := Lib.hid hz1
  clear h01 hz1 X Y
  have t2' := (t2.alloc (.cells #[.bool p1, .slice A1 l1.length c1] 24)).alloc (.cells #[.bool q1, .slice B1 m1.length d1] 24)
  have e0 := t2'.c0
  have e1 := t2'.c1
  have e2 := t2'.c2
  have e3 := t2'.c3
  clear t2'
  go_wp2_with fail
  clear e0 e1 e2 e3
  have hg1 : w.heap.size + 4 < w2.heap.size := t5.lt
  have u1 : Two ((w2.alloc (.cells #[.bool p1, .slice A1 l1.length c1] 24)).alloc (.cells #[.bool q1, .slice B1 m1.length d1] 24)) w2.heap.size (.bool p1) (.slice A1 l1.length c1) := (Two.new_ w2 (.bool p1) (.slice A1 l1.length c1) 24).alloc _
  have u2 : Two ((w2.alloc (.cells #[.bool p1, .slice A1 l1.length c1] 24)).alloc (.cells #[.bool q1, .slice B1 m1.length d1] 24)) (w2.heap.size + 1) (.bool q1) (.slice B1 m1.length d1) := by simpa only [World.size_alloc, Nat.add_assoc, Nat.reduceAdd] using Two.new_ (w2.alloc (.cells #[.bool p1, .slice A1 l1.length c1] 24)) (.bool q1) (.slice B1 m1.length d1) 24
  have bn : Below w2.heap.size w2 ((w2.alloc (.cells #[.bool p1, .slice A1 l1.length c1] 24)).alloc (.cells #[.bool q1, .slice B1 m1.length d1] 24)) := ((Below.refl _ _).alloc (Nat.le_refl _) _).alloc (by simp only [World.size_alloc]; omega) _
  replace t2 := t2.below bn t2.lt
  replace t3 := t3.below bn t3.lt
  replace t4 := t4.below bn t4.lt
  replace t5 := t5.below bn t5.lt
  replace bel := bel.trans (bn.mono bel.size)
  replace X1 := X1.below bn
  replace Y1 := Y1.below bn
  clear bn
  generalize ((w2.alloc (.cells #[.bool p1, .slice A1 l1.length c1] 24)).alloc (.cells #[.bool q1, .slice B1 m1.length d1] 24)) = w3 at t2 t3 t4 t5 bel X1 Y1 u1 u2 ⊢
  generalize w2.heap.size = g at t2 t3 t4 t5 bel X1 Y1 u1 u2 hg1 ⊢
  have X := h3.below bel
  have Y := h4.below bel
  refine (HR2.out _ X Y).mono ?_
  rintro e w3 ⟨p2, A2, c2, l2, q2, B2, d2, m2, x2, y2, rfl, X2, Y2, h02, hz2, hb⟩
  clear t2
  replace t3 := t3.below hb t3.lt
  replace t4 := t4.below hb t4.lt
  replace t5 := t5.below hb t5.lt
  replace bel := bel.trans (hb.mono bel.size)
  replace X1 := X1.below hb
  replace Y1 := Y1.below hb
  replace u1 := u1.below hb u1.lt
  replace u2 := u2.below hb u2.lt
  clear hb
  have H02 := Lib.hid h02
  have HZ2 := Lib.hid hz2
  clear h02 hz2 X Y
  go_wp2_with fail
  have hg2 : w.heap.size + 4 < w3.heap.size := t5.lt
  have v1 : Two ((w3.alloc (.cells #[.bool p2, .slice A2 l2.length c2] 24)).alloc (.cells #[.bool q2, .slice B2 m2.length d2] 24)) w3.heap.size (.bool p2) (.slice A2 l2.length c2) := (Two.new_ w3 (.bool p2) (.slice A2 l2.length c2) 24).alloc _
  have v2 : Two ((w3.alloc (.cells #[.bool p2, .slice A2 l2.length c2] 24)).alloc (.cells #[.bool q2, .slice B2 m2.length d2] 24)) (w3.heap.size + 1) (.bool q2) (.slice B2 m2.length d2) := by simpa only [World.size_alloc, Nat.add_assoc, Nat.reduceAdd] using Two.new_ (w3.alloc (.cells #[.bool p2, .slice A2 l2.length c2] 24)) (.bool q2) (.slice B2 m2.length d2) 24
  have bn : Below w3.heap.size w3 ((w3.alloc (.cells #[.bool p2, .slice A2 l2.length c2] 24)).alloc (.cells #[.bool q2, .slice B2 m2.length d2] 24)) := ((Below.refl _ _).alloc (Nat.le_refl _) _).alloc (by simp only [World.size_alloc]; omega) _
  replace t3 := t3.below bn t3.lt
  replace t4 := t4.below bn t4.lt
  replace t5 := t5.below bn t5.lt
  replace bel := bel.trans (bn.mono bel.size)
  replace X1 := X1.below bn
  replace Y1 := Y1.below bn
  replace u1 := u1.below bn u1.lt
  replace u2 := u2.below bn u2.lt
  replace X2 := X2.below bn
  replace Y2 := Y2.below bn
  clear bn
  generalize ((w3.alloc (.cells #[.bool p2, .slice A2 l2.length c2] 24)).alloc (.cells #[.bool q2, .slice B2 m2.length d2] 24)) = w4 at t3 t4 t5 bel X1 Y1 u1 u2 X2 Y2 v1 v2 ⊢
  generalize w3.heap.size = g' at t3 t4 t5 bel X1 Y1 u1 u2 X2 Y2 v1 v2 hg2 ⊢
  replace t3 := t3.drew
  replace t4 := t4.drew
  replace t5 := t5.drew
  replace bel := bDrew1 bel
  replace X1 := X1.drew
  replace Y1 := Y1.drew
  replace u1 := u1.drew
  replace u2 := u2.drew
  replace X2 := X2.drew
  replace Y2 := Y2.drew
  replace v1 := v1.drew
  replace v2 := v2.drew
  have HM1 := Lib.hid (fun (W : World) (h : Iv W p1 A1 c1 l1 x1 n) (h' : Iv W q2 B2 d2 m2 y2 k) => gmul h h' (by have := HN.out; have := HK.out; omega) (by have := HN.out; have := HK.out; omega))
  have HM2 := Lib.hid (fun (W : World) (h : Iv W p2 A2 c2 l2 x2 k) (h' : Iv W q1 B1 d1 m1 y1 n) => gmul h h' (by have := HN.out; have := HK.out; omega) (by have := HN.out; have := HK.out; omega))
  have HM3 := Lib.hid (fun (W : World) (h : Iv W q1 B1 d1 m1 y1 n) (h' : Iv W q2 B2 d2 m2 y2 k) => gmul h h' (by have := HN.out; have := HK.out; omega) (by have := HN.out; have := HK.out; omega))
  go_region_held3 (fun w' => w'.cell? ⟨g, 0, none⟩ = some (.bool p1) ∧ w'.cell? ⟨g, 1, none⟩ = some (.slice A1 l1.length c1) ∧ w'.cell? ⟨g + 1, 0, none⟩ = some (.bool q1) ∧ w'.cell? ⟨g + 1, 1, none⟩ = some (.slice B1 m1.length d1) ∧ w'.cell? ⟨g', 0, none⟩ = some (.bool p2) ∧ w'.cell? ⟨g', 1, none⟩ = some (.slice A2 l2.length c2) ∧ w'.cell? ⟨g' + 1, 0, none⟩ = some (.bool q2) ∧ w'.cell? ⟨g' + 1, 1, none⟩ = some (.slice B2 m2.length d2))
    (first | with_reducible exact ⟨u1.c0, u1.c1, u2.c0, u2.c1, v1.c0, v1.c1, v2.c0, v2.c1⟩ | with_reducible exact ⟨K0_0.out.c0, K0_0.out.c1, K1_0.out.c0, K1_0.out.c1, K2_0.out.c0, K2_0.out.c1, K3_0.out.c0, K3_0.out.c1⟩ | with_reducible exact ⟨K0_1.out.c0, K0_1.out.c1, K1_1.out.c0, K1_1.out.c1, K2_1.out.c0, K2_1.out.c1, K3_1.out.c0, K3_1.out.c1⟩ | with_reducible exact ⟨K0_2.out.c0, K0_2.out.c1, K1_2.out.c0, K1_2.out.c1, K2_2.out.c0, K2_2.out.c1, K3_2.out.c0, K3_2.out.c1⟩)
    (first
      | (go_at_call 62; (with_reducible refine (HM1.out _ X1 Y2).mono ?_); rintro e wa ⟨p3, A3, c3, l3, rfl, E3, hb⟩; replace t3 := t3.below hb t3.lt; replace t4 := t4.below hb t4.lt; replace t5 := t5.below hb t5.lt; replace bel := bel.trans (hb.mono bel.size); replace u1 := u1.below hb u1.lt; replace u2 := u2.below hb u2.lt; replace v1 := v1.below hb v1.lt; replace v2 := v2.below hb v2.lt; replace X1 := X1.below hb; replace Y1 := Y1.below hb; replace X2 := X2.below hb; replace Y2 := Y2.below hb; clear hb)
      | (go_at_call 62; (with_reducible refine (HM2.out _ X2 Y1).mono ?_); rintro e wa ⟨q3, B3, d3, m3, rfl, E4, hb⟩; replace t3 := t3.below hb t3.lt; replace t4 := t4.below hb t4.lt; replace t5 := t5.below hb t5.lt; replace bel := bel.trans (hb.mono bel.size); replace u1 := u1.below hb u1.lt; replace u2 := u2.below hb u2.lt; replace v1 := v1.below hb v1.lt; replace v2 := v2.below hb v2.lt; replace X1 := X1.below hb; replace Y1 := Y1.below hb; replace X2 := X2.below hb; replace Y2 := Y2.below hb; replace E3 := E3.below hb; clear hb)
      | (go_at_call 62; (with_reducible refine (HM3.out _ Y1 Y2).mono ?_); rintro e wa ⟨r3, C3, f3, o3, rfl, E5, hb⟩; replace t3 := t3.below hb t3.lt; replace t4 := t4.below hb t4.lt; replace t5 := t5.below hb t5.lt; replace bel := bel.trans (hb.mono bel.size); replace u1 := u1.below hb u1.lt; replace u2 := u2.below hb u2.lt; replace v1 := v1.below hb v1.lt; replace v2 := v2.below hb v2.lt; replace E3 := E3.below hb; replace E4 := E4.below hb; clear hb
         have T4 : Two ((wa.setCell ⟨w.heap.size + 2, 0, none⟩ (.bool p3)).setCell ⟨w.heap.size + 2, 1, none⟩ (.slice A3 l3.length c3)) (w.heap.size + 3) (.bool false) (.slice none 0 0) := t4.far2 (by omega) _ _
         have T5 : Two ((((wa.setCell ⟨w.heap.size + 2, 0, none⟩ (.bool p3)).setCell ⟨w.heap.size + 2, 1, none⟩ (.slice A3 l3.length c3)).setCell ⟨w.heap.size + 3, 0, none⟩ (.bool q3)).setCell ⟨w.heap.size + 3, 1, none⟩ (.slice B3 m3.length d3)) (w.heap.size + 4) (.bool false) (.slice none 0 0) := (t5.far2 (g := w.heap.size + 2) (by omega) (.bool p3) (.slice A3 l3.length c3)).far2 (g := w.heap.size + 3) (by omega) (.bool q3) (.slice B3 m3.length d3)
         have t3_0 := t3.c0
         have t3f0 := t3.fr 0
         have t3_1 := t3.c1
         have t3f1 := t3.fr 1
         have T4_0 := T4.c0
         have T4f0 := T4.fr 0
         have T4_1 := T4.c1
         have T4f1 := T4.fr 1
         have T5_0 := T5.c0
         have T5f0 := T5.fr 0
         have T5_1 := T5.c1
         have T5f1 := T5.fr 1
         have K0_0 := Lib.hid (u1.far2 (g := w.heap.size + 2) (by omega) (.bool p3) (.slice A3 l3.length c3))
         have K1_0 := Lib.hid (u2.far2 (g := w.heap.size + 2) (by omega) (.bool p3) (.slice A3 l3.length c3))
         have K2_0 := Lib.hid (v1.far2 (g := w.heap.size + 2) (by omega) (.bool p3) (.slice A3 l3.length c3))
         have K3_0 := Lib.hid (v2.far2 (g := w.heap.size + 2) (by omega) (.bool p3) (.slice A3 l3.length c3))
         have K0_1 := Lib.hid (K0_0.out.far2 (g := w.heap.size + 3) (by omega) (.bool q3) (.slice B3 m3.length d3))
         have K1_1 := Lib.hid (K1_0.out.far2 (g := w.heap.size + 3) (by omega) (.bool q3) (.slice B3 m3.length d3))
         have K2_1 := Lib.hid (K2_0.out.far2 (g := w.heap.size + 3) (by omega) (.bool q3) (.slice B3 m3.length d3))
         have K3_1 := Lib.hid (K3_0.out.far2 (g := w.heap.size + 3) (by omega) (.bool q3) (.slice B3 m3.length d3))
         have K0_2 := Lib.hid (K0_1.out.far2 (g := w.heap.size + 4) (by omega) (.bool r3) (.slice C3 o3.length f3))
         have K1_2 := Lib.hid (K1_1.out.far2 (g := w.heap.size + 4) (by omega) (.bool r3) (.slice C3 o3.length f3))
         have K2_2 := Lib.hid (K2_1.out.far2 (g := w.heap.size + 4) (by omega) (.bool r3) (.slice C3 o3.length f3))
         have K3_2 := Lib.hid (K3_1.out.far2 (g := w.heap.size + 4) (by omega) (.bool r3) (.slice C3 o3.length f3))
         have R3 := Lib.hid (((t3.put2 (.bool p3) (.slice A3 l3.length c3)).far2 (g := w.heap.size + 3) (by omega) (.bool q3) (.slice B3 m3.length d3)).far2 (g := w.heap.size + 4) (by omega) (.bool r3) (.slice C3 o3.length f3))
         have R4 := Lib.hid ((T4.put2 (.bool q3) (.slice B3 m3.length d3)).far2 (g := w.heap.size + 4) (by omega) (.bool r3) (.slice C3 o3.length f3))
         have R5 := Lib.hid (T5.put2 (.bool r3) (.slice C3 o3.length f3))
         have F3 := Lib.hid (((E3.put2 t3 (.bool p3) (.slice A3 l3.length c3)).put2 T4 (.bool q3) (.slice B3 m3.length d3)).put2 T5 (.bool r3) (.slice C3 o3.length f3))
         have F4 := Lib.hid (((E4.put2 t3 (.bool p3) (.slice A3 l3.length c3)).put2 T4 (.bool q3) (.slice B3 m3.length d3)).put2 T5 (.bool r3) (.slice C3 o3.length f3))
         have F5 := Lib.hid (((E5.put2 t3 (.bool p3) (.slice A3 l3.length c3)).put2 T4 (.bool q3) (.slice B3 m3.length d3)).put2 T5 (.bool r3) (.slice C3 o3.length f3))
         have BL := Lib.hid (below_set2 (below_set2 (below_set2 bel (b := w.heap.size + 2) (by omega) (.bool p3) (.slice A3 l3.length c3)) (b := w.heap.size + 3) (by omega) (.bool q3) (.slice B3 m3.length d3)) (b := w.heap.size + 4) (by omega) (.bool r3) (.slice C3 o3.length f3))
         clear T4 T5))
  go_wp2_with fail
  have r0 := R3.out.c0
  have r1 := R3.out.c1
  have r2 := R4.out.c0
  have r3' := R4.out.c1
  have r4 := R5.out.c0
  have r5 := R5.out.c1
  unfold set2 at r0 r1 r2 r3' r4 r5
  refine bodyPost_ret (v := .tuple #[.agg #[.bool p3, .slice A3 l3.length c3], .agg #[.bool q3, .slice B3 m3.length d3], .agg #[.bool r3, .slice C3 o3.length f3]]) (by simp [results, Tryz.results47, go_sem, r0, r1, r2, r3', r4, r5]) rfl ?_
  exact ⟨p3, A3, c3, l3, q3, B3, d3, m3, r3, C3, f3, o3, _, _, _, rfl, F3.out, F4.out.more_ (by omega), F5.out, Int.mul_pos H01.out H02.out, (rq_com1 H02.out).trans HZ1.out, (rq_com2 H01.out).trans HZ2.out, BL.out⟩
end Go.Proofs.YtkpomjdablopaaaGreatDoor
/- Walks of package rational: Add, Sub. -/
namespace Go.Proofs.YtkpomjdablopaaaGreatDoor
open Go.RowKit
set_option linter.unusedVariables false

set_option maxRecDepth 100000 in
set_option maxHeartbeats 3000000 in
theorem graddr {x y x' y' : Int} {n k : Nat} {p : Bool} {A : Option Addr} {c : Nat} {l : List Nat} {q : Bool} {B : Option Addr} {d : Nat} {m : List Nat} {p' : Bool} {A' : Option Addr} {c' : Nat} {l' : List Nat} {q' : Bool} {B' : Option Addr} {d' : Nat} {m' : List Nat} {w : World}
    (h1 : Iv w p A c l x n) (h2 : Iv w q B d m y n) (h3 : Iv w p' A' c' l' x' k) (h4 : Iv w q' B' d' m' y' k) (hn : n ≤ 49) (hn1 : 1 ≤ n) (hk : k ≤ 49) (hk1 : 1 ≤ k) :
    Calls Tryz.prog 20 #[ratV p A l.length c q B m.length d, ratV p' A' l'.length c' q' B' m'.length d'] w (GR (Rat.divInt x y + Rat.divInt x' y') (n + k + 1) w) := by
  obtain ⟨za, hza⟩ : ∃ z, z = Rat.divInt x y := ⟨_, rfl⟩
  obtain ⟨zb, hzb⟩ : ∃ z, z = Rat.divInt x' y' := ⟨_, rfl⟩
  rw [← hza, ← hzb]
  have HCM := Lib.hid (fun (W : World) (h1 : Iv W p A c l x n) (h2 : Iv W q B d m y n) (h3 : Iv W p' A' c' l' x' k) (h4 : Iv W q' B' d' m' y' k) => (by have h := gcommon h1 h2 h3 h4 hn hn1 hk hk1; rw [← hza, ← hzb] at h; exact h : Calls Tryz.prog 47 #[.agg #[.bool p, .slice A l.length c, .bool q, .slice B m.length d], .agg #[.bool p', .slice A' l'.length c', .bool q', .slice B' m'.length d']] W (Cm za zb (n + k) W)))
  obtain ⟨z, hz⟩ : ∃ z, z = za + zb := ⟨_, rfl⟩
  rw [← hz]
  have HZ := Lib.hid hz
  have HN := Lib.hid hn
  have HK := Lib.hid hk
  clear hza hzb hz hn hn1 hk hk1
  unfold ratV
  go_enter Tryz.func20, Tryz.ntmps20
  go_wp2_with fail
  have t1 : Four (((w.alloc (.cells #[.bool p, .slice A l.length c, .bool q, .slice B m.length d] 26)).alloc (.cells #[.bool p', .slice A' l'.length c', .bool q', .slice B' m'.length d'] 26)).alloc (.cells #[.bool false, .slice none 0 0, .bool false, .slice none 0 0] 26)) w.heap.size (.bool p) (.slice A l.length c) (.bool q) (.slice B m.length d) := ((Four.new_ w (.bool p) (.slice A l.length c) (.bool q) (.slice B m.length d) 26).alloc _).alloc _
  have t2 : Four (((w.alloc (.cells #[.bool p, .slice A l.length c, .bool q, .slice B m.length d] 26)).alloc (.cells #[.bool p', .slice A' l'.length c', .bool q', .slice B' m'.length d'] 26)).alloc (.cells #[.bool false, .slice none 0 0, .bool false, .slice none 0 0] 26)) (w.heap.size + 1) (.bool p') (.slice A' l'.length c') (.bool q') (.slice B' m'.length d') := by simpa only [World.size_alloc, Nat.add_assoc, Nat.reduceAdd] using (Four.new_ (w.alloc (.cells #[.bool p, .slice A l.length c, .bool q, .slice B m.length d] 26)) (.bool p') (.slice A' l'.length c') (.bool q') (.slice B' m'.length d') 26).alloc _
  have t3 : Four (((w.alloc (.cells #[.bool p, .slice A l.length c, .bool q, .slice B m.length d] 26)).alloc (.cells #[.bool p', .slice A' l'.length c', .bool q', .slice B' m'.length d'] 26)).alloc (.cells #[.bool false, .slice none 0 0, .bool false, .slice none 0 0] 26)) (w.heap.size + 2) (.bool false) (.slice none 0 0) (.bool false) (.slice none 0 0) := by simpa only [World.size_alloc, Nat.add_assoc, Nat.reduceAdd] using Four.new_ ((w.alloc (.cells #[.bool p, .slice A l.length c, .bool q, .slice B m.length d] 26)).alloc (.cells #[.bool p', .slice A' l'.length c', .bool q', .slice B' m'.length d'] 26)) (.bool false) (.slice none 0 0) (.bool false) (.slice none 0 0) 26
  have bel : Below w.heap.size w (((w.alloc (.cells #[.bool p, .slice A l.length c, .bool q, .slice B m.length d] 26)).alloc (.cells #[.bool p', .slice A' l'.length c', .bool q', .slice B' m'.length d'] 26)).alloc (.cells #[.bool false, .slice none 0 0, .bool false, .slice none 0 0] 26)) := (((Below.refl _ _).alloc (Nat.le_refl _) _).alloc (by simp only [World.size_alloc]; omega) _).alloc (by simp only [World.size_alloc]; omega) _
  generalize (((w.alloc (.cells #[.bool p, .slice A l.length c, .bool q, .slice B m.length d] 26)).alloc (.cells #[.bool p', .slice A' l'.length c', .bool q', .slice B' m'.length d'] 26)).alloc (.cells #[.bool false, .slice none 0 0, .bool false, .slice none 0 0] 26)) = wx at t1 t2 t3 bel ⊢
  have X := h1.below bel
  have Y := h2.below bel
  have X' := h3.below bel
  have Y' := h4.below bel
  have t1_0 := t1.c0
  have t1_1 := t1.c1
  have t1_2 := t1.c2
  have t1_3 := t1.c3
  have t2_0 := t2.c0
  have t2_1 := t2.c1
  have t2_2 := t2.c2
  have t2_3 := t2.c3
  go_wp2_with fail
  refine (HCM.out _ X Y X' Y').mono ?_
  rintro e w2 ⟨p1, A1, c1, l1, q1, B1, d1, m1, r1, C1, f1, o1, a, b, den, rfl, E1, E2, E3, h0, ha, hb0, hb⟩
  clear t1_0 t1_1 t1_2 t1_3 t2_0 t2_1 t2_2 t2_3
  clear t1 t2
  replace t3 := t3.below hb t3.lt
  replace bel := bel.trans (hb.mono bel.size)
  clear hb
  clear X Y X' Y'
  have HAD := Lib.hid (fun (W : World) (h : Cn W p1 A1 c1 l1 a (n + k)) (h' : Cn W q1 B1 d1 m1 b (n + k)) => (by have h := gadd h.iv h'.iv (by have := HN.out; have := HK.out; omega) (by have := HN.out; have := HK.out; omega); rw [Nat.max_self] at h; exact h : Calls Tryz.prog 49 #[.agg #[.bool p1, .slice A1 l1.length c1], .agg #[.bool q1, .slice B1 m1.length d1]] W (GI (a + b) (n + k + 1) W)))
  have HRD := Lib.hid (fun (W : World) (p3 : Bool) (A3 : Option Addr) (c3 : Nat) (l3 : List Nat) (h : Cn W p3 A3 c3 l3 (a + b) (n + k + 1)) (h' : Cn W r1 C1 f1 o1 den (n + k)) => (by have h := greduced h.iv (h'.iv.more (Nat.le_succ _)) h0 (by have := HN.out; have := HK.out; omega); rw [rq_addS h0, ha, hb0, ← HZ.out] at h; exact h : Calls Tryz.prog 48 #[.agg #[.bool p3, .slice A3 l3.length c3], .agg #[.bool r1, .slice C1 o1.length f1]] W (GR z (n + k + 1) W)))
  clear h0 ha hb0
  go_wp2_with fail
  have hg1 : w.heap.size + 2 < w2.heap.size := t3.lt
  have u1 : Two (((w2.alloc (.cells #[.bool p1, .slice A1 l1.length c1] 24)).alloc (.cells #[.bool q1, .slice B1 m1.length d1] 24)).alloc (.cells #[.bool r1, .slice C1 o1.length f1] 24)) w2.heap.size (.bool p1) (.slice A1 l1.length c1) := ((Two.new_ w2 (.bool p1) (.slice A1 l1.length c1) 24).alloc _).alloc _
  have u2 : Two (((w2.alloc (.cells #[.bool p1, .slice A1 l1.length c1] 24)).alloc (.cells #[.bool q1, .slice B1 m1.length d1] 24)).alloc (.cells #[.bool r1, .slice C1 o1.length f1] 24)) (w2.heap.size + 1) (.bool q1) (.slice B1 m1.length d1) := by simpa only [World.size_alloc, Nat.add_assoc, Nat.reduceAdd] using (Two.new_ (w2.alloc (.cells #[.bool p1, .slice A1 l1.length c1] 24)) (.bool q1) (.slice B1 m1.length d1) 24).alloc _
  have u3 : Two (((w2.alloc (.cells #[.bool p1, .slice A1 l1.length c1] 24)).alloc (.cells #[.bool q1, .slice B1 m1.length d1] 24)).alloc (.cells #[.bool r1, .slice C1 o1.length f1] 24)) (w2.heap.size + 2) (.bool r1) (.slice C1 o1.length f1) := by simpa only [World.size_alloc, Nat.add_assoc, Nat.reduceAdd] using Two.new_ ((w2.alloc (.cells #[.bool p1, .slice A1 l1.length c1] 24)).alloc (.cells #[.bool q1, .slice B1 m1.length d1] 24)) (.bool r1) (.slice C1 o1.length f1) 24
  have bn : Below w2.heap.size w2 (((w2.alloc (.cells #[.bool p1, .slice A1 l1.length c1] 24)).alloc (.cells #[.bool q1, .slice B1 m1.length d1] 24)).alloc (.cells #[.bool r1, .slice C1 o1.length f1] 24)) := (((Below.refl _ _).alloc (Nat.le_refl _) _).alloc (by simp only [World.size_alloc]; omega) _).alloc (by simp only [World.size_alloc]; omega) _
  replace t3 := t3.below bn t3.lt
  replace bel := bel.trans (bn.mono bel.size)
  replace E1 := E1.below bn
  replace E2 := E2.below bn
  replace E3 := E3.below bn
  clear bn
  generalize (((w2.alloc (.cells #[.bool p1, .slice A1 l1.length c1] 24)).alloc (.cells #[.bool q1, .slice B1 m1.length d1] 24)).alloc (.cells #[.bool r1, .slice C1 o1.length f1] 24)) = w3 at t3 bel E1 E2 E3 u1 u2 u3 ⊢
  generalize w2.heap.size = g at t3 bel E1 E2 E3 u1 u2 u3 hg1 ⊢
  replace t3 := t3.drew
  replace bel := bDrew1 bel
  replace E1 := E1.drew
  replace E2 := E2.drew
  replace E3 := E3.drew
  replace u1 := u1.drew
  replace u2 := u2.drew
  replace u3 := u3.drew
  go_region_held3 (fun w' => w'.cell? ⟨g, 0, none⟩ = some (.bool p1) ∧ w'.cell? ⟨g, 1, none⟩ = some (.slice A1 l1.length c1) ∧ w'.cell? ⟨g + 1, 0, none⟩ = some (.bool q1) ∧ w'.cell? ⟨g + 1, 1, none⟩ = some (.slice B1 m1.length d1) ∧ w'.cell? ⟨g + 2, 0, none⟩ = some (.bool r1) ∧ w'.cell? ⟨g + 2, 1, none⟩ = some (.slice C1 o1.length f1))
    (first | with_reducible exact ⟨u1.c0, u1.c1, u2.c0, u2.c1, u3.c0, u3.c1⟩ | exact ⟨K0.out.c0, K0.out.c1, K1.out.c0, K1.out.c1, K2.out.c0, K2.out.c1⟩)
    (first
      | (go_at_call 49; (with_reducible refine (HAD.out _ E1 E2).mono ?_); rintro e wa ⟨p3, A3, c3, l3, rfl, E4, hb⟩; replace t3 := t3.below hb t3.lt; replace bel := bel.trans (hb.mono bel.size); replace u1 := u1.below hb u1.lt; replace u2 := u2.below hb u2.lt; replace u3 := u3.below hb u3.lt; replace E3 := E3.below hb; clear hb)
      | (go_at_call 48; (with_reducible refine (HRD.out _ _ _ _ _ E4 E3).mono ?_); rintro e wa ⟨A4, c4, l4, A5, c5, l5, rfl, CC, hb⟩; replace t3 := t3.below hb t3.lt; replace bel := bel.trans (hb.mono bel.size); replace u1 := u1.below hb u1.lt; replace u2 := u2.below hb u2.lt; replace u3 := u3.below hb u3.lt; clear hb
         have d0 := t3.c0
         have f0 := t3.fr 0
         have d1 := t3.c1
         have f1 := t3.fr 1
         have d2 := t3.c2
         have f2 := t3.fr 2
         have d3 := t3.c3
         have f3 := t3.fr 3
         have K0 := Lib.hid (u1.far4 (g := w.heap.size + 2) (by omega) (.bool (decide (z.num < 0))) (.slice A4 l4.length c4) (.bool false) (.slice A5 l5.length c5))
         have K1 := Lib.hid (u2.far4 (g := w.heap.size + 2) (by omega) (.bool (decide (z.num < 0))) (.slice A4 l4.length c4) (.bool false) (.slice A5 l5.length c5))
         have K2 := Lib.hid (u3.far4 (g := w.heap.size + 2) (by omega) (.bool (decide (z.num < 0))) (.slice A4 l4.length c4) (.bool false) (.slice A5 l5.length c5))
         have R := Lib.hid (t3.put (.bool (decide (z.num < 0))) (.slice A4 l4.length c4) (.bool false) (.slice A5 l5.length c5))
         have CR := Lib.hid (CC.put4 t3 (.bool (decide (z.num < 0))) (.slice A4 l4.length c4) (.bool false) (.slice A5 l5.length c5))
         have BL := Lib.hid (below_set4 bel (b := w.heap.size + 2) (by omega) (.bool (decide (z.num < 0))) (.slice A4 l4.length c4) (.bool false) (.slice A5 l5.length c5))))
  go_wp2_with fail
  have r0 := R.out.c0
  have r1 := R.out.c1
  have r2 := R.out.c2
  have r3 := R.out.c3
  unfold set4 at r0 r1 r2 r3
  refine bodyPost_ret (v := .agg #[.bool (decide (z.num < 0)), .slice A4 l4.length c4, .bool false, .slice A5 l5.length c5]) (by simp [results, Tryz.results20, go_sem, r0, r1, r2, r3]) rfl ?_
  exact ⟨A4, c4, l4, A5, c5, l5, rfl, CR.out, BL.out⟩

end Go.Proofs.YtkpomjdablopaaaGreatDoor
/- Walks: Small of both. -/
namespace Go.Proofs.YtkpomjdablopaaaGreatDoor
open Go.RowKit
set_option linter.unusedVariables false

/-- does an integer fit into 64 bits? -/
def fits (z : Int) : Prop := -9223372036854775808 ≤ z ∧ z ≤ 9223372036854775807
def smI (z : Int) : Int := if -9223372036854775808 ≤ z ∧ z ≤ 9223372036854775807 then z else 0
def smB (z : Int) : Bool := decide (-9223372036854775808 ≤ z ∧ z ≤ 9223372036854775807)
theorem sm_yes {z : Int} (h : -9223372036854775808 ≤ z ∧ z ≤ 9223372036854775807) : smI z = z ∧ smB z = true := ⟨if_pos h, decide_eq_true h⟩
theorem sm_no {z : Int} (h : ¬ (-9223372036854775808 ≤ z ∧ z ≤ 9223372036854775807)) : smI z = 0 ∧ smB z = false := ⟨if_neg h, decide_eq_false h⟩
theorem big_val {l : List Nat} (h : 2 < (Kn.dig (Kn.val l)).length) : 18446744073709551616 ≤ Kn.val l := by
  have hp : 0 < Kn.val l := Kn.dig_len_pos.1 (by omega)
  have h1 := Kn.dig_ge hp
  have h2 := Kn.pw_mono (show 2 ≤ (Kn.dig (Kn.val l)).length - 1 by omega)
  have h3 : Kn.pw 2 = 18446744073709551616 := by decide
  omega
theorem small_val {n : Nat} (h : (Kn.dig n).length ≤ 2) : n < 18446744073709551616 := by
  have h1 := @Kn.dig_lt n
  have h2 := Kn.pw_mono h
  have h3 : Kn.pw 2 = 18446744073709551616 := by decide
  omega

set_option maxRecDepth 100000 in
set_option maxHeartbeats 1000000 in
theorem bsmall_any (neg : Bool) (A : Option Addr) (c : Nat) (ws : List Nat) (w : World) (h : Sl w w.heap.size A c ws) (hl : ws.length ≤ 1000000) (S : Int) (F : Bool) (hS : Hid (S = smI (Kn.iv neg ws))) (hF : Hid (F = smB (Kn.iv neg ws))) :
    Calls Tryz.prog 50 #[intV neg A ws.length c] w fun e w' => e = .returned (.tuple #[.int .i64 S, .bool F]) ∧ Below w.heap.size w w' := by
  obtain ⟨m, hm⟩ : ∃ m, Hid (m = (Kn.dig (Kn.val ws)).length) := ⟨_, Lib.hid rfl⟩
  obtain ⟨M, hM⟩ : ∃ M, Hid (M = Kn.val ws) := ⟨_, Lib.hid rfl⟩
  have HT : Hid (∀ W B, Sl W B A c ws → Calls Tryz.prog 65 #[.slice A ws.length c] W fun e w' => e = .returned (.slice A m c) ∧ W = w') := Lib.hid (fun W B h => by rw [hm.out]; exact trim_any A c ws W B h (by omega))
  have HJ : Hid (∀ W B, m ≤ 2 → Sl W B A c ws → Calls Tryz.prog 87 #[.slice A m c] W fun e w' => e = .returned (.int .u64 (M : Int)) ∧ W = w') := Lib.hid (fun W B h2 h => by
    have := join_any A c _ W B h.trim (by rw [← hm.out]; exact h2)
    rwa [Kn.val_dig, ← hm.out, ← hM.out] at this)
  have hX := h.alloc (Nat.le_refl _) (.cells #[.bool neg, .slice A ws.length c] 24)
  have hB := al1 w (.cells #[.bool neg, .slice A ws.length c] 24)
  unfold intV
  rcases Nat.lt_or_ge 2 m with hm2 | hm2
  · have hbig : Hid (¬ (-9223372036854775808 ≤ Kn.iv neg ws ∧ Kn.iv neg ws ≤ 9223372036854775807)) := Lib.hid (by
      have := big_val (l := ws) (by rw [← hm.out]; exact hm2)
      unfold Kn.iv; cases neg <;> simp <;> omega)
    have e1 : Hid (S = 0) := Lib.hid (by rw [hS.out]; exact (sm_no hbig.out).1)
    have e2 : Hid (F = false) := Lib.hid (by rw [hF.out]; exact (sm_no hbig.out).2)
    go_enter Tryz.func50, Tryz.ntmps50
    go_wp2_with (go_at_call 65; refine (HT.out _ _ hX).mono ?_; rintro e w' ⟨rfl, rfl⟩)
    go_ret2
    exact ⟨by rw [e1.out, e2.out]; rfl, hB⟩
  · have hMl : Hid (M < 18446744073709551616) := Lib.hid (by rw [hM.out]; exact small_val (by rw [← hm.out]; exact hm2))
    cases neg
    · have hz : Hid (Kn.iv false ws = (M : Int)) := Lib.hid (by unfold Kn.iv; rw [hM.out]; simp)
      by_cases hc : (M : Int) < 9223372036854775808
      · have e1 : Hid (S = (M : Int)) := Lib.hid (by rw [hS.out, hz.out]; exact (sm_yes (by omega)).1)
        have e2 : Hid (F = true) := Lib.hid (by rw [hF.out, hz.out]; exact (sm_yes (by omega)).2)
        have hw : ∀ W, (convert 82 3 (.int .u64 (M : Int))).run Tryz.prog W = .ok (.int .i64 S) W := fun W => by
          have h := run_convert_int (P := Tryz.prog) W 82 3 .u64 (M : Int) (by kernel_rfl) (by kernel_rfl)
          rw [show Tryz.prog.intKind 3 = .i64 by kernel_rfl] at h
          have e : IntKind.i64.wrap (M : Int) = S := by rw [e1.out, IntKind.wrap_i64]; omega
          rw [e] at h
          exact h
        have hd : binOp .lss 82 (.int .u64 (M : Int)) (.int .u64 9223372036854775808) = (pure (.bool true) : Sem Value) := by rw [binOp_lss, decide_eq_true hc]
        clear hc
        go_enter Tryz.func50, Tryz.ntmps50
        go_wp2_with (first
          | (go_at_call 65; refine (HT.out _ _ hX).mono ?_; rintro e w' ⟨rfl, rfl⟩)
          | (go_at_call 87; refine (HJ.out _ _ hm2 hX).mono ?_; rintro e w' ⟨rfl, rfl⟩))
        go_ret2
        refine ⟨?_, hB⟩
        rw [e2.out]
        first | rfl | (show Ending.returned (.tuple #[.int .i64 _, .bool true]) = _; rw [e1.out]; congr 4; simp; omega) | simp [e1.out]
      · have e1 : Hid (S = 0) := Lib.hid (by rw [hS.out, hz.out]; exact (sm_no (by omega)).1)
        have e2 : Hid (F = false) := Lib.hid (by rw [hF.out, hz.out]; exact (sm_no (by omega)).2)
        have hd : binOp .lss 82 (.int .u64 (M : Int)) (.int .u64 9223372036854775808) = (pure (.bool false) : Sem Value) := by rw [binOp_lss, decide_eq_false hc]
        clear hc
        go_enter Tryz.func50, Tryz.ntmps50
        go_wp2_with (first
          | (go_at_call 65; refine (HT.out _ _ hX).mono ?_; rintro e w' ⟨rfl, rfl⟩)
          | (go_at_call 87; refine (HJ.out _ _ hm2 hX).mono ?_; rintro e w' ⟨rfl, rfl⟩))
        go_ret2
        exact ⟨by rw [e1.out, e2.out]; rfl, hB⟩
    · have hz : Hid (Kn.iv true ws = -(M : Int)) := Lib.hid (by unfold Kn.iv; rw [hM.out]; simp)
      by_cases hc : (M : Int) ≤ 9223372036854775808
      · have e1 : Hid (S = -(M : Int)) := Lib.hid (by rw [hS.out, hz.out]; exact (sm_yes (by omega)).1)
        have e2 : Hid (F = true) := Lib.hid (by rw [hF.out, hz.out]; exact (sm_yes (by omega)).2)
        have hw : IntKind.i64.wrap (IntKind.u64.wrap (-(M : Int))) = S := by rw [e1.out, IntKind.wrap_u64, IntKind.wrap_i64]; omega
        have hw2 : wrap64 (IntKind.u64.wrap (-(M : Int))) = S := by unfold wrap64; rw [e1.out, IntKind.wrap_u64]; omega
        have hd : binOp .leq 82 (.int .u64 (M : Int)) (.int .u64 9223372036854775808) = (pure (.bool true) : Sem Value) := by rw [binOp_leq, decide_eq_true hc]
        clear hc
        go_enter Tryz.func50, Tryz.ntmps50
        go_wp2_with (first
          | (go_at_call 65; refine (HT.out _ _ hX).mono ?_; rintro e w' ⟨rfl, rfl⟩)
          | (go_at_call 87; refine (HJ.out _ _ hm2 hX).mono ?_; rintro e w' ⟨rfl, rfl⟩))
        go_ret2
        refine ⟨?_, hB⟩
        rw [e2.out]
        first | rfl | (show Ending.returned (.tuple #[.int .i64 _, .bool true]) = _; rw [e1.out]; congr 4; simp; omega) | simp [e1.out]
      · have e1 : Hid (S = 0) := Lib.hid (by rw [hS.out, hz.out]; exact (sm_no (by omega)).1)
        have e2 : Hid (F = false) := Lib.hid (by rw [hF.out, hz.out]; exact (sm_no (by omega)).2)
        have hd : binOp .leq 82 (.int .u64 (M : Int)) (.int .u64 9223372036854775808) = (pure (.bool false) : Sem Value) := by rw [binOp_leq, decide_eq_false hc]
        clear hc
        go_enter Tryz.func50, Tryz.ntmps50
        go_wp2_with (first
          | (go_at_call 65; refine (HT.out _ _ hX).mono ?_; rintro e w' ⟨rfl, rfl⟩)
          | (go_at_call 87; refine (HJ.out _ _ hm2 hX).mono ?_; rintro e w' ⟨rfl, rfl⟩))
        go_ret2
        exact ⟨by rw [e1.out, e2.out]; rfl, hB⟩
end Go.Proofs.YtkpomjdablopaaaGreatDoor
/- Walks of package rational: isOne. -/
namespace Go.Proofs.YtkpomjdablopaaaGreatDoor
open Go.RowKit
set_option linter.unusedVariables false

set_option maxRecDepth 100000 in
set_option maxHeartbeats 3000000 in
theorem isone_t {x : Int} {n : Nat} {p : Bool} {A : Option Addr} {c : Nat} {l : List Nat} {w : World} (h : Iv w p A c l x n) (hn : n ≤ 1000) (B : Bool) (hB : Hid (decide (x = 1) = B)) (hfit : (-9223372036854775808 ≤ x ∧ x ≤ 9223372036854775807)) :
    Calls Tryz.prog 22 #[.agg #[.bool p, .slice A l.length c]] w fun e w' => e = .returned (.bool B) ∧ Below w.heap.size w w' := by
  obtain ⟨S, hS⟩ : ∃ S, Hid (S = smI x) := ⟨_, Lib.hid rfl⟩
  obtain ⟨F, hF⟩ : ∃ F, Hid (F = smB x) := ⟨_, Lib.hid rfl⟩
  have HSM := Lib.hid (fun (W : World) (h : Iv W p A c l x n) => (by have e := h.val; exact bsmall_any p A c l W h.sl (by have := h.len; omega) S F (by rw [e]; exact hS) (by rw [e]; exact hF) : Calls Tryz.prog 50 #[.agg #[.bool p, .slice A l.length c]] W fun e w' => e = .returned (.tuple #[.int .i64 S, .bool F]) ∧ Below W.heap.size W w'))
  obtain rfl : F = true := hF.out.trans (sm_yes hfit).2
  have e1 : (S == 1) = B := by rw [hS.out, (sm_yes hfit).1, ← hB.out]; rw [Bool.eq_iff_iff, beq_iff_eq, decide_eq_true_iff]
  clear hfit hn
  go_enter Tryz.func22, Tryz.ntmps22
  go_wp2_with fail
  have t1 : Two (w.alloc (.cells #[.bool p, .slice A l.length c] 24)) w.heap.size (.bool p) (.slice A l.length c) := Two.new_ w (.bool p) (.slice A l.length c) 24
  have bel : Below w.heap.size w (w.alloc (.cells #[.bool p, .slice A l.length c] 24)) := (Below.refl _ _).alloc (Nat.le_refl _) _
  generalize (w.alloc (.cells #[.bool p, .slice A l.length c] 24)) = wx at t1 bel ⊢
  have X := h.below bel
  have t1_0 := t1.c0
  have t1_1 := t1.c1
  go_wp2_with fail
  refine (HSM.out _ X).mono ?_
  rintro e w2 ⟨rfl, hb⟩
  clear t1_0 t1_1
  replace t1 := t1.below hb t1.lt
  replace bel := bel.trans (hb.mono bel.size)
  clear hb
  clear X
  go_wp2_with fail
  go_ret
  exact ⟨by first | rfl | (rw [e1]), bel⟩
set_option maxRecDepth 100000 in
set_option maxHeartbeats 3000000 in
theorem isone_f {x : Int} {n : Nat} {p : Bool} {A : Option Addr} {c : Nat} {l : List Nat} {w : World} (h : Iv w p A c l x n) (hn : n ≤ 1000) (B : Bool) (hB : Hid (decide (x = 1) = B)) (hfit : ¬ (-9223372036854775808 ≤ x ∧ x ≤ 9223372036854775807)) :
    Calls Tryz.prog 22 #[.agg #[.bool p, .slice A l.length c]] w fun e w' => e = .returned (.bool B) ∧ Below w.heap.size w w' := by
  obtain ⟨S, hS⟩ : ∃ S, Hid (S = smI x) := ⟨_, Lib.hid rfl⟩
  obtain ⟨F, hF⟩ : ∃ F, Hid (F = smB x) := ⟨_, Lib.hid rfl⟩
  have HSM := Lib.hid (fun (W : World) (h : Iv W p A c l x n) => (by have e := h.val; exact bsmall_any p A c l W h.sl (by have := h.len; omega) S F (by rw [e]; exact hS) (by rw [e]; exact hF) : Calls Tryz.prog 50 #[.agg #[.bool p, .slice A l.length c]] W fun e w' => e = .returned (.tuple #[.int .i64 S, .bool F]) ∧ Below W.heap.size W w'))
  obtain rfl : F = false := hF.out.trans (sm_no hfit).2
  obtain rfl : B = false := by rw [← hB.out]; exact decide_eq_false (fun e => hfit (by omega))
  clear hfit hn
  go_enter Tryz.func22, Tryz.ntmps22
  go_wp2_with fail
  have t1 : Two (w.alloc (.cells #[.bool p, .slice A l.length c] 24)) w.heap.size (.bool p) (.slice A l.length c) := Two.new_ w (.bool p) (.slice A l.length c) 24
  have bel : Below w.heap.size w (w.alloc (.cells #[.bool p, .slice A l.length c] 24)) := (Below.refl _ _).alloc (Nat.le_refl _) _
  generalize (w.alloc (.cells #[.bool p, .slice A l.length c] 24)) = wx at t1 bel ⊢
  have X := h.below bel
  have t1_0 := t1.c0
  have t1_1 := t1.c1
  go_wp2_with fail
  refine (HSM.out _ X).mono ?_
  rintro e w2 ⟨rfl, hb⟩
  clear t1_0 t1_1
  replace t1 := t1.below hb t1.lt
  replace bel := bel.trans (hb.mono bel.size)
  clear hb
  clear X
  go_wp2_with fail
  go_ret
  exact ⟨rfl, bel⟩
theorem gone {x : Int} {n : Nat} {p : Bool} {A : Option Addr} {c : Nat} {l : List Nat} {w : World} (h : Iv w p A c l x n) (hn : n ≤ 1000) (B : Bool) (hB : Hid (decide (x = 1) = B)) :
    Calls Tryz.prog 22 #[.agg #[.bool p, .slice A l.length c]] w fun e w' => e = .returned (.bool B) ∧ Below w.heap.size w w' := by
  by_cases hf : (-9223372036854775808 ≤ x ∧ x ≤ 9223372036854775807)
  · exact isone_t h hn B hB hf
  · exact isone_f h hn B hB hf
end Go.Proofs.YtkpomjdablopaaaGreatDoor
