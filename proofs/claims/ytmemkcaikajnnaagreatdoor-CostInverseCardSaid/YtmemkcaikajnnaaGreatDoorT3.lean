/- Walk: a part is read (package cost). -/
import Derived.Test.YtmemkcaikajnnaaGreatDoorT2
import Derived.Lib.SmallJoins
namespace Go.Proofs.YtmemkcaikajnnaaGreatDoor
open Go.RowKit Go.Sort
set_option linter.unusedVariables false

namespace Kp
def valF (acc : Nat) (l : List UInt8) : Nat := l.foldl (fun n c => n * 10 + (c.toNat - 48)) acc
theorem valF_cons (acc : Nat) (c : UInt8) (l : List UInt8) : valF acc (c :: l) = valF (acc * 10 + (c.toNat - 48)) l := by unfold valF; rw [List.foldl_cons]
theorem valF_mono (l : List UInt8) : ∀ acc, acc ≤ valF acc l := by
  induction l with
  | nil => intro acc; exact Nat.le_refl _
  | cons c l ih => intro acc; rw [valF_cons]; have := ih (acc * 10 + (c.toNat - 48)); omega
theorem parse_dig (l : List UInt8) : ∀ acc, l.all dig = true → Lib.parseUint10 acc l = .ok (valF acc l) ∨ (Lib.parseUint10 acc l = .range ∧ 18446744073709551616 ≤ valF acc l) := by
  induction l with
  | nil => intro acc _; exact .inl rfl
  | cons c l ih =>
    intro acc h
    rw [List.all_cons, Bool.and_eq_true] at h
    have hc := h.1
    unfold dig at hc
    simp only [Bool.and_eq_true, decide_eq_true_eq] at hc
    unfold Lib.parseUint10
    rw [if_pos hc, valF_cons]
    have hm := valF_mono l (acc * 10 + (c.toNat - 48))
    by_cases h1 : 1844674407370955162 ≤ acc
    · rw [if_pos h1]; exact .inr ⟨rfl, by omega⟩
    · rw [if_neg h1]
      by_cases h2 : 18446744073709551616 ≤ acc * 10 + (c.toNat - 48)
      · rw [if_pos h2]; exact .inr ⟨rfl, by omega⟩
      · rw [if_neg h2]; exact ih _ h.2
theorem atoi_dig {l : List UInt8} (h0 : l ≠ []) (h : l.all dig = true) : Lib.atoiAll l = .ok (valN l : Int) ∨ (Lib.atoiAll l = .range ∧ 100 < valN l) := by
  cases l with
  | nil => exact absurd rfl h0
  | cons c r =>
    have hc := h
    rw [List.all_cons, Bool.and_eq_true] at hc
    have hc := hc.1
    unfold dig at hc
    simp only [Bool.and_eq_true, decide_eq_true_eq] at hc
    have hp := parse_dig (c :: r) 0 h
    have e : Lib.parseMag (c :: r) = Lib.parseUint10 0 (c :: r) := by unfold Lib.parseMag; rw [if_neg (by simp)]
    have hv : valN (c :: r) = valF 0 (c :: r) := rfl
    rw [Lib.atoiAll_plain c r (by omega) (by omega), e, hv]
    rcases hp with hp | ⟨hp, hb2⟩
    · rw [hp]
      unfold Lib.signless
      dsimp only
      by_cases hb : 9223372036854775808 ≤ valF 0 (c :: r)
      · right
        exact ⟨by simp; omega, by omega⟩
      · left
        simp; omega
    · right
      rw [hp]
      exact ⟨rfl, by omega⟩
theorem isNum_ne {t : List UInt8} (h : isNum t = true) : t ≠ [] := by rintro rfl; exact absurd h (by decide)
/-- the reader's box -/
def rdA (l : List Int) (m : List Bool) : Array Value := (l.map (fun x => Value.int .i64 x) ++ m.map Value.bool).toArray
theorem rdA_l {l : List Int} {m : List Bool} (hl : l.length = 13) {i : Nat} (h : i < 13) : (rdA l m)[i]? = some (.int .i64 (l.getD i 0)) := by
  unfold rdA
  rw [List.getElem?_toArray, List.getElem?_append_left (by rw [List.length_map]; omega), List.getElem?_map, List.getElem?_eq_getElem (by omega), List.getD_eq_getElem?_getD, List.getElem?_eq_getElem (by omega)]
  rfl
theorem rdA_m {l : List Int} {m : List Bool} (hl : l.length = 13) (hm : m.length = 13) {i : Nat} (h : i < 13) : (rdA l m)[13 + i]? = some (.bool (m.getD i false)) := by
  unfold rdA
  rw [List.getElem?_toArray, List.getElem?_append_right (by rw [List.length_map]; omega), List.length_map, hl, show 13 + i - 13 = i by omega, List.getElem?_map, List.getElem?_eq_getElem (by omega), List.getD_eq_getElem?_getD, List.getElem?_eq_getElem (by omega)]
  rfl
theorem rdA_setm {l : List Int} {m : List Bool} (hl : l.length = 13) {i : Nat} (h : i < 13) (b : Bool) : (rdA l m).setIfInBounds (13 + i) (.bool b) = rdA l (m.set i b) := by
  unfold rdA
  rw [List.setIfInBounds_toArray, List.set_append_right _ _ (by rw [List.length_map]; omega), List.length_map, hl, show 13 + i - 13 = i by omega, List.map_set]
theorem rdA_setl {l : List Int} {m : List Bool} (hl : l.length = 13) {i : Nat} (h : i < 13) (x : Int) : (rdA l m).setIfInBounds i (.int .i64 x) = rdA (l.set i x) m := by
  unfold rdA
  rw [List.setIfInBounds_toArray, List.set_append_left _ _ (by rw [List.length_map]; omega), List.map_set]
theorem names_at {i : Nat} (h : i < 13) : names[i]? = some (names.getD i []) := by
  rw [List.getD_eq_getElem?_getD, List.getElem?_eq_getElem (show i < names.length from h)]; rfl
end Kp
theorem atoiK (s : ByteArray) (hs : s.size ≤ 1000000) (h : Kp.isNum (bs s) = true) (W : World) (her : ∃ ev, W.cell? ⟨6, 0, none⟩ = some ev ∧ (ev = .nilIface ∨ ∃ te pe, ev = .iface te pe)) :
    Calls Tryz.prog 51 #[.string s] W fun e w' => ((e = .returned (.tuple #[.int .i64 (Kp.valN (bs s) : Int), .nilIface])) ∨ (100 < Kp.valN (bs s) ∧ ∃ x te pe, e = .returned (.tuple #[.int .i64 x, .iface te pe]))) ∧ Below W.heap.size W w' := by
  rcases Kp.atoi_dig (Kp.isNum_ne h) (Kp.isNum_all h) with h1 | ⟨h1, h2⟩
  · refine (Tryz.strconv_Atoi_ok s (by omega) _ h1 W).mono ?_
    rintro e w' ⟨rfl, rfl | ⟨t, rfl⟩⟩
    · exact ⟨.inl rfl, Below.refl _ _⟩
    · exact ⟨.inl rfl, Joins.below_bytesWorld _ _ _ _ (Nat.le_refl _)⟩
  · obtain ⟨ev, hv, hev⟩ := her
    refine (Tryz.strconv_Atoi_range s (by omega) h1 ev W hv hev).mono ?_
    rintro e w' ⟨N, rfl, _, _, hb⟩
    exact ⟨.inr ⟨h2, _, _, _, rfl⟩, hb⟩
/-- what read leaves -/
def RdP (w : World) (b : Nat) (l : List Int) (m : List Bool) (p : List UInt8) (r : Ending) (w' : World) : Prop :=
  r = .returned (.int .i64 (Kp.stepS l m p).1) ∧ w.grownBy w' (some b) ∧ ((Kp.stepS l m p).1 = 0 → Blk w' b (Kp.rdA (Kp.stepS l m p).2.1 (Kp.stepS l m p).2.2))
set_option maxRecDepth 100000 in
set_option maxHeartbeats 3000000 in
theorem read_any (b : Nat) (l : List Int) (m : List Bool) (p : ByteArray) (w : World) (hT : Tk w.heap.size w) (hb : Blk w b (Kp.rdA l m)) (hl : l.length = 13) (hm : m.length = 13) (hp : p.size ≤ 100000) (hbn : 0 ≠ b ∧ 6 ≠ b) :
    Calls Tryz.prog 25 #[.pointer (some ⟨b, 0, none⟩), .string p] w (RdP w b l m (bs p)) := by
  obtain ⟨hl1, hl2⟩ := cut_le (bs p)
  rw [bs_length] at hl1 hl2
  obtain ⟨S, hS⟩ : ∃ S, Hid (Kp.stepS l m (bs p) = S) := ⟨_, Lib.hid rfl⟩
  obtain ⟨W1, h1⟩ : ∃ x, Hid (Kp.word (bs p) = x) := ⟨_, Lib.hid rfl⟩
  obtain ⟨N1, h4⟩ : ∃ x, Hid (Kp.num (bs p) = x) := ⟨_, Lib.hid rfl⟩
  obtain ⟨F, h5⟩ : ∃ x, Hid (Kp.pOk (bs p) = x) := ⟨_, Lib.hid rfl⟩
  have HD := Lib.hid (fun (W : World) (hm : ∃ m, W.cell? ⟨2, 0, none⟩ = some (.int .i64 m)) => (by have h := divide_any p hp W hm; rw [h1.out, h4.out, h5.out] at h; exact h : Calls Tryz.prog 50 #[.string p] W fun r w' => r = .returned (.tuple #[.string (mkB W1), .string (mkB N1), .bool F]) ∧ Below W.heap.size W w'))
  have HN : Hid (F = true → Kp.isNum N1 = true) := Lib.hid (fun hF => by
    have h := h5.out.trans hF
    unfold Kp.pOk at h
    rw [Bool.and_eq_true] at h
    rw [← h4.out]; exact h.2)
  have HST : Hid (S = (if F = false then (6, l, m) else match Kp.idx W1 with | none => (7, l, m) | some i => if m.getD i false = true then (8, l, m) else if 100 < Kp.valN N1 then (3, l, m) else (0, l.set i (Kp.valN N1 : Int), m.set i true) : Int × List Int × List Bool)) := Lib.hid (by rw [← hS.out]; unfold Kp.stepS; rw [h1.out, h4.out, h5.out]; rfl)
  have HSZ : Hid (N1.length ≤ 100000) := Lib.hid (by rw [← h4.out]; omega)
  unfold RdP
  rw [hS.out]
  clear hS h1 h4 h5 hl1 hl2 hp
  have bel : Below w.heap.size w w := Below.refl _ _
  have T := hT
  have B := hb
  go_enter Tryz.func25, Tryz.ntmps25
  go_wp2_with fail
  refine (HD.out _ T.mx).mono ?_
  rintro r w2 ⟨rfl, hb2⟩
  replace bel := bel.trans (hb2.mono bel.size)
  replace B := B.below hb2 B.lt
  replace T := T.at hb2
  clear hb2
  cases F with
  | false =>
    have h6 : Hid (S = (6, l, m)) := Lib.hid (by rw [HST.out]; rfl)
    go_wp2_with fail
    go_ret
    exact ⟨by rw [h6.out]; rfl, grown_of_below bel _, fun h => by rw [h6.out] at h; exact absurd h (by simp)⟩
  | true =>
    have HN2 := Lib.hid (HN.out rfl)
    have HS2 : Hid (S = (match Kp.idx W1 with | none => (7, l, m) | some i => if m.getD i false = true then (8, l, m) else if 100 < Kp.valN N1 then (3, l, m) else (0, l.set i (Kp.valN N1 : Int), m.set i true) : Int × List Int × List Bool)) := Lib.hid (by rw [HST.out]; rfl)
    clear HN HST
    go_wp2_with fail
    refine (entries_any b _).mono ?_
    rintro r w3 ⟨rfl, hb3⟩
    replace bel := bel.trans (hb3.mono bel.size)
    replace B := B.below hb3 B.lt
    replace T := T.at hb3
    clear hb3
    go_wp2_with fail
    go_loopw [24] (fun iv wr => ∃ i : Nat, i ≤ 13 ∧ iv = .int .i64 (i : Int) ∧ Hid (∀ j, j < i → Kp.names[j]? ≠ some W1) ∧ Blk wr b (Kp.rdA l m) ∧ Tk wr.heap.size wr ∧ Below w.heap.size w wr) (fun iv _ => 13 - (intOf iv).toNat)
    case atStart => exact ⟨0, Nat.zero_le _, rfl, Lib.hid (fun j hj => absurd hj (Nat.not_lt_zero _)), B, T, bel⟩
    case round =>
      clear B T bel
      obtain ⟨i, hi, rfl, HNO, B, T, bel⟩ := hrel
      by_cases hlt : i < 13
      · have hltI : (i : Int) < 13 := by omega
        have hidx := ents_at b hlt
        have hcn := T.nm i hlt
        obtain ⟨U, hU⟩ : ∃ U, Hid (nmK i = U) := ⟨_, Lib.hid rfl⟩
        rw [hU.out] at hcn
        have hUb : bs U = Kp.names.getD i [] := by rw [← hU.out]; exact bs_mk _
        have hwk : IntKind.i64.wrap ((i : Int) + 1) = ((i + 1 : Nat) : Int) := (IntWalk.i64_in _ (by omega)).trans (by omega)
        by_cases he : bs U = W1
        · have q1 : (U.toList == (mkB W1).toList) = true := by rw [bs_toList, bs_toList, bs_mk, beq_iff_eq]; exact he
          have q2 : (U.toList != (mkB W1).toList) = false := by rw [bs_toList, bs_toList, bs_mk, bne_eq_false_iff_eq]; exact he
          have hix : Kp.idx W1 = some i := Kp.idx_some HNO.out hlt (by rw [Kp.names_at hlt, ← hUb, he])
          have HS3 : Hid (S = if m.getD i false = true then (8, l, m) else if 100 < Kp.valN N1 then (3, l, m) else (0, l.set i (Kp.valN N1 : Int), m.set i true)) := Lib.hid (by rw [HS2.out, hix])
          have hcm := B.c (13 + i) (Kp.rdA_m hl hm hlt)
          obtain ⟨M, hM⟩ : ∃ M, Hid (m.getD i false = M) := ⟨_, Lib.hid rfl⟩
          rw [hM.out] at hcm
          clear hix he HNO hUb
          cases M with
          | true =>
            have h8 : Hid (S = (8, l, m)) := Lib.hid (by rw [HS3.out, hM.out]; rfl)
            go_wp2_with fail
            go_ret
            exact ⟨by rw [h8.out]; rfl, grown_of_below bel _, fun h => by rw [h8.out] at h; exact absurd h (by simp)⟩
          | false =>
            have HS4 : Hid (S = if 100 < Kp.valN N1 then (3, l, m) else (0, l.set i (Kp.valN N1 : Int), m.set i true)) := Lib.hid (by rw [HS3.out, hM.out]; rfl)
            obtain ⟨V, hV⟩ : ∃ V, Hid (Kp.valN N1 = V) := ⟨_, Lib.hid rfl⟩
            have HAT := Lib.hid (fun (W : World) (her : ∃ ev, W.cell? ⟨6, 0, none⟩ = some ev ∧ (ev = .nilIface ∨ ∃ te pe, ev = .iface te pe)) => (by have h := atoiK (mkB N1) (by rw [mk_size]; have := HSZ.out; omega) (by rw [bs_mk]; exact HN2.out) W her; rw [bs_mk, hV.out] at h; exact h : Calls Tryz.prog 51 #[.string (mkB N1)] W fun e w' => ((e = .returned (.tuple #[.int .i64 (V : Int), .nilIface])) ∨ (100 < V ∧ ∃ x te pe, e = .returned (.tuple #[.int .i64 x, .iface te pe]))) ∧ Below W.heap.size W w'))
            rw [hV.out] at HS4
            have hfm := B.fr (13 + i)
            have B2 := B.put (13 + i) (.bool true)
            rw [Kp.rdA_setm hl hlt true] at B2
            have G2 : w.grownBy (wr.setCell ⟨b, 13 + i, none⟩ (.bool true)) (some b) := grown_trans (grown_of_below bel _) (grown_set _ _ _ _)
            have E2 : ∃ ev, (wr.setCell ⟨b, 13 + i, none⟩ (.bool true)).cell? ⟨6, 0, none⟩ = some ev ∧ (ev = .nilIface ∨ ∃ te pe, ev = .iface te pe) := by
              obtain ⟨ev, h1, h2⟩ := T.er
              exact ⟨ev, grown_cell (grown_set wr b (13 + i) (.bool true)) h1 hbn.2, h2⟩
            have HB2 := Lib.hid B2
            have HG2 := Lib.hid G2
            have HE2 := Lib.hid E2
            clear B2 G2 E2 HN2 hM HS3 B T bel
            go_wp2_with fail
            refine (HAT.out _ HE2.out).mono ?_
            rintro r w4 ⟨hr, hb4⟩
            have B3 := HB2.out.below hb4 HB2.out.lt
            have G3 := grown_trans HG2.out (grown_of_below hb4 (some b))
            clear hb4 hcm hfm
            rcases hr with rfl | ⟨hbig, x, te, pe, rfl⟩
            · by_cases hv : 100 < V
              · have h3 : Hid (S = (3, l, m)) := Lib.hid (by rw [HS4.out, if_pos hv])
                have hvI : (100 : Int) < (V : Int) := by omega
                have hvD : decide ((100 : Int) < (V : Int)) = true := decide_eq_true hvI
                go_wp2_with fail
                go_ret
                exact ⟨by rw [h3.out]; rfl, G3, fun h => by rw [h3.out] at h; exact absurd h (by simp)⟩
              · have h3 : Hid (S = (0, l.set i (V : Int), m.set i true)) := Lib.hid (by rw [HS4.out, if_neg hv])
                have hvI : ¬ (100 : Int) < (V : Int) := by omega
                have hvD : decide ((100 : Int) < (V : Int)) = false := decide_eq_false hvI
                have hvN : decide (100 < V) = false := decide_eq_false hv
                have hcl := B3.c i (Kp.rdA_l hl hlt)
                have hfl := B3.fr i
                have B4 := B3.put i (.int .i64 (V : Int))
                rw [Kp.rdA_setl hl hlt] at B4
                have HB4 := Lib.hid B4
                have HG4 := Lib.hid (grown_trans G3 (grown_set w4 b i (.int .i64 (V : Int))))
                clear B4 B3 G3
                go_wp2_with fail
                go_ret
                exact ⟨by rw [h3.out]; rfl, HG4.out, fun _ => by rw [h3.out]; exact HB4.out⟩
            · have h3 : Hid (S = (3, l, m)) := Lib.hid (by rw [HS4.out, if_pos hbig])
              go_wp2_with fail
              go_ret
              exact ⟨by rw [h3.out]; rfl, G3, fun h => by rw [h3.out] at h; exact absurd h (by simp)⟩
        · have q1 : (U.toList == (mkB W1).toList) = false := by rw [bs_toList, bs_toList, bs_mk, beq_eq_false_iff_ne]; exact he
          have q2 : (U.toList != (mkB W1).toList) = true := by rw [bs_toList, bs_toList, bs_mk, bne_iff_ne]; exact he
          have HN3 : Hid (∀ j, j < i + 1 → Kp.names[j]? ≠ some W1) := Lib.hid (fun j hj => by
            by_cases e : j = i
            · subst e
              rw [Kp.names_at hlt, ← hUb]
              intro h; injection h with h; exact he h
            · exact HNO.out j (by omega))
          clear he hUb HNO
          go_wp2_with fail
          go_roundw
          case rel => exact ⟨i + 1, by omega, by first | go_num | rfl, HN3, B, T, bel⟩
          case measure => first | (simp [intOf]; omega) | (simp [intOf, hwk]; omega)
      · obtain rfl : i = 13 := by omega
        have h7 : Hid (S = (7, l, m)) := Lib.hid (by rw [HS2.out, Kp.idx_none HNO.out])
        clear HNO
        go_wp2_with fail
        go_ret
        exact ⟨by rw [h7.out]; rfl, grown_of_below bel _, fun h => by rw [h7.out] at h; exact absurd h (by simp)⟩
end Go.Proofs.YtmemkcaikajnnaaGreatDoor
