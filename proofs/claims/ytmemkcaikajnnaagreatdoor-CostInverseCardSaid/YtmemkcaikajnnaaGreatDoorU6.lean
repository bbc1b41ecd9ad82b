/- Walk: Print of the reference's costs. -/
import Derived.Test.YtmemkcaikajnnaaGreatDoorU5
namespace Go.Proofs.YtmemkcaikajnnaaGreatDoor
open Go.RowKit Go.Sort
set_option linter.unusedVariables false

namespace Kp
/-- what is printed of the first entries -/
def pre (c : C) (i : Nat) : List UInt8 := Lib.join (((pieces c).take i).map (·.data.toList)) [44, 32]
theorem join_snoc (L : List (List UInt8)) (x sep : List UInt8) : Lib.join (L ++ [x]) sep = Lib.join L sep ++ ((if L = [] then [] else sep) ++ x) := by
  cases L with
  | nil => rw [List.nil_append, if_pos rfl, Lib.join_one, Lib.join_nil]; rfl
  | cons y L =>
    rw [List.cons_append, Lib.join_cons, Lib.join_cons, if_neg (by simp)]
    unfold Lib.joinTail
    rw [List.map_append, List.flatten_append, List.append_assoc]
    simp
theorem pre_zero (c : C) : pre c 0 = [] := rfl
theorem pre_all (c : C) : pre c 13 = text c := by
  unfold pre text
  rw [List.take_of_length_le (by rw [pieces_len]; exact Nat.le_refl _)]
theorem pre_next (c : C) {i : Nat} (h : i < 13) : pre c (i + 1) = pre c i ++ ((if i = 0 then [] else [44, 32]) ++ (names.getD i [] ++ [32] ++ Lib.itoa (c.list.getD i 0))) := by
  unfold pre
  rw [pieces_next c h, List.map_append, List.map_cons, List.map_nil, join_snoc]
  have e : (((pieces c).take i).map (·.data.toList) = []) ↔ i = 0 := by
    rw [List.map_eq_nil_iff, List.take_eq_nil_iff]
    constructor
    · rintro (h | h)
      · exact h
      · exact absurd (congrArg List.length h) (by rw [pieces_len]; simp)
    · exact .inl
  by_cases h0 : i = 0
  · rw [if_pos (e.2 h0), if_pos h0]; rfl
  · rw [if_neg (fun h => h0 (e.1 h)), if_neg h0]; rfl
theorem pre_len (c : C) (hc : c.ok = true) : ∀ i, i ≤ 13 → (pre c i).length ≤ 60 * i := by
  intro i
  induction i with
  | zero => intro _; exact Nat.le_refl _
  | succ i ih =>
    intro h
    have h1 := ih (by omega)
    have hi : i < 13 := by omega
    have hb := C.ok_get hc (x := c.list.getD i 0) (by rw [List.getD_eq_getElem?_getD, List.getElem?_eq_getElem (by rw [C.len]; exact hi)]; exact List.getElem_mem _)
    have h4 := itoa_len4 _ hb.1 (by omega)
    have hn : ∀ k : Fin 13, (names.getD k.val []).length ≤ 10 := by decide
    have hn : (names.getD i []).length ≤ 10 := hn ⟨i, hi⟩
    have hs : (if i = 0 then ([] : List UInt8) else [44, 32]).length ≤ 2 := by split <;> simp
    rw [pre_next c hi]
    simp only [List.length_append, List.length_cons, List.length_nil]
    omega
end Kp
set_option maxRecDepth 100000 in
set_option maxHeartbeats 3000000 in
theorem rprint_bad (c : C) (w : World) (hk : c.code = 3) :
    Calls Tryz.prog 7 #[c.val] w fun r w' => r = .returned (.tuple #[.string ⟨#[]⟩, .int .i64 3]) ∧ Below w.heap.size w w' := by
  have HK := Lib.hid (fun W => (by have h := rcheck_any c W; rw [hk] at h; exact h : Calls Tryz.prog 10 #[c.val] W fun r w' => r = .returned (.int .i64 3) ∧ Below W.heap.size W w'))
  clear hk
  go_enter Tryz.func7, Tryz.ntmps7
  go_wp2_with fail
  refine (HK.out _).mono ?_
  rintro r w1 ⟨rfl, b1⟩
  have b2 := bTrans (al1 w _) b1
  clear b1 HK
  go_wp2_with fail
  go_ret2
  exact ⟨rfl, b2⟩
/-- the world of the reference's Print -/
structure RpI (w wr : World) (g ab aoff : Nat) (c : C) : Prop where
  nm : Blk wr g nmsA
  bel : Below w.heap.size w wr
  ls : ∀ i : Nat, i < 13 → wr.cell? ⟨ab, aoff + i, none⟩ = some (.int .i64 (c.list.getD i 0))
  lt : ab < wr.heap.size
theorem RpI.below {w wr w' : World} {g ab aoff : Nat} {c : C} (h : RpI w wr g ab aoff c) (hb : Below wr.heap.size wr w') : RpI w w' g ab aoff c :=
  ⟨h.nm.below hb h.nm.lt, bTrans h.bel hb, fun i hi => (hb.cell (p := ⟨ab, aoff + i, none⟩) h.lt).trans (h.ls i hi), Nat.lt_of_lt_of_le h.lt hb.size⟩
set_option maxRecDepth 100000 in
set_option maxHeartbeats 4000000 in
theorem rprint_ok (c : C) (w : World) (hk : c.ok = true) :
    Calls Tryz.prog 7 #[c.val] w fun r w' => r = .returned (.tuple #[.string (mkB (Kp.text c)), .int .i64 0]) ∧ Below w.heap.size w w' := by
  have hcode : c.code = 0 := by unfold C.code; rw [if_pos hk]
  have HK := Lib.hid hk
  have HC := Lib.hid (fun W => (by have h := rcheck_any c W; rw [hcode] at h; exact h : Calls Tryz.prog 10 #[c.val] W fun r w' => r = .returned (.int .i64 0) ∧ Below W.heap.size W w'))
  have HL := Lib.hid (show ∀ w : World, Calls Tryz.prog 13 #[c.val] w (fun r w' => ∃ (A : Option Addr) (cp : Nat), r = .returned (.slice A 13 cp) ∧ Zs w' w'.heap.size A c.list ∧ Below w.heap.size w w') from fun w => rlist_any c w)
  clear hcode hk
  go_enter Tryz.func7, Tryz.ntmps7
  go_wp2_with fail
  refine (HC.out _).mono ?_
  rintro r w1 ⟨rfl, b1⟩
  have hbc : Blk w1 w.heap.size c.box := (Blk.new_ w _ _).below b1 (by simp)
  have b2 := bTrans (al1 w _) b1
  clear b1 HC
  obtain ⟨d0, d1, d2, d3, d4, d5, d6, d7, d8, d9, d10, d11, d12⟩ := c13 hbc
  go_wp2_with fail
  refine (HL.out _).mono ?_
  rintro r w2 ⟨A, cp, rfl, hZ, b3⟩
  clear d0 d1 d2 d3 d4 d5 d6 d7 d8 d9 d10 d11 d12 HL
  go_wp2_with fail
  refine (rnames_any _).mono ?_
  rintro r w3 ⟨⟨g, rfl, hN, hg⟩, b4⟩
  obtain ⟨ab, aoff, rfl, hab, hcells⟩ := hZ.row.cells (by rw [List.length_map, C.len]; decide)
  have X : RpI w w3 g ab aoff c := ⟨hN, bTrans (bTrans b2 b3) b4, fun i hi => (b4.cell (p := ⟨ab, aoff + i, none⟩) hab).trans (hcells i _ (by rw [List.getElem?_map, List.getElem?_eq_getElem (by rw [C.len]; exact hi), List.getD_eq_getElem?_getD, List.getElem?_eq_getElem (by rw [C.len]; exact hi)]; rfl)), Nat.lt_of_lt_of_le hab b4.size⟩
  clear b2 b3 b4 hN hg hZ hcells hab hbc
  go_wp2_with fail
  go_loopw [7, 8] (fun sv iv wr => ∃ i : Nat, i ≤ 13 ∧ iv = .int .i64 i ∧ sv = .string (mkB (Kp.pre c i)) ∧ RpI w wr g ab aoff c) (fun _ iv _ => 13 - (intOf iv).toNat)
  case atStart => exact ⟨0, Nat.zero_le _, rfl, rfl, X⟩
  case round =>
    clear X
    obtain ⟨i, hi, rfl, rfl, Y⟩ := hrel
    by_cases hlt : i < 13
    · have hltI : (i : Int) < 13 := by omega
      have hcn := Y.nm.c i (nmsA_at hlt)
      have hcl := Y.ls i hlt
      have hxb : 0 ≤ c.list.getD i 0 ∧ c.list.getD i 0 ≤ 100 := C.ok_get HK.out (by rw [List.getD_eq_getElem?_getD, List.getElem?_eq_getElem (by rw [C.len]; exact hlt)]; exact List.getElem_mem _)
      obtain ⟨n, hn⟩ : ∃ n : Nat, c.list.getD i 0 = (n : Int) := ⟨(c.list.getD i 0).toNat, by omega⟩
      have hn100 : n ≤ 100 := by omega
      have hpl := Kp.pre_len c HK.out i hi
      obtain ⟨s, hs⟩ : ∃ s, Hid (mkB (Kp.pre c i) = s) := ⟨_, Lib.hid rfl⟩
      obtain ⟨s1, hs1⟩ : ∃ s, Hid (nmK i = s) := ⟨_, Lib.hid rfl⟩
      obtain ⟨s2, hs2⟩ : ∃ s, Hid (mkB (Lib.itoa (n : Int)) = s) := ⟨_, Lib.hid rfl⟩
      have z0 : s.size ≤ 780 := by rw [← hs.out, mk_size]; omega
      have z1 : s1.size ≤ 10 := by
        rw [← hs1.out]
        have hn : ∀ k : Fin 13, (nmK k.val).size ≤ 10 := by decide
        exact hn ⟨i, hlt⟩
      have z2 : s2.size ≤ 4 := by
        rw [← hs2.out, mk_size]
        exact Kp.itoa_len4 _ (by omega) (by omega)
      have HN := Lib.hid (fun W : World => (by have h := number_any n hn100 W; rw [hs2.out] at h; exact h : Calls Tryz.prog 14 #[.int .i64 (n : Int)] W fun e w' => e = .returned (.string s2) ∧ Below W.heap.size W w'))
      have HT : Hid (mkB (Kp.pre c (i + 1)) = s ++ ((if i = 0 then (⟨#[]⟩ : ByteArray) else ⟨#[44, 32]⟩) ++ (s1 ++ ⟨#[32]⟩ ++ s2))) := Lib.hid (by
        have e1 : (if i = 0 then (⟨#[]⟩ : ByteArray) else ⟨#[44, 32]⟩) = mkB (if i = 0 then [] else [44, 32]) := by split <;> rfl
        have e2 : (⟨#[32]⟩ : ByteArray) = mkB [32] := rfl
        have e3 : nmK i = mkB (Kp.names.getD i []) := rfl
        rw [e1, e2, ← hs.out, ← hs1.out, ← hs2.out, e3, mk_app, mk_app, mk_app, mk_app, Kp.pre_next c hlt, hn])
      rw [hs1.out] at hcn
      rw [hn] at hcl
      rw [hs.out]
      clear hxb hn hn100 hpl hs hs1 hs2 hi
      have b0 : Below wr.heap.size wr wr.drew := (Below.refl _ _).drew
      have hab := Y.lt
      have hgl := Y.nm.lt
      by_cases hi0 : 0 < i
      · have hi1 : (0 : Int) < (i : Int) := by omega
        have k0 : (9223372036854775807 < s.size + 2) = False := eq_false (by omega)
        have k1 : (9223372036854775807 < s.size + 2 + s1.size) = False := eq_false (by omega)
        have k2 : (9223372036854775807 < s.size + 2 + s1.size + 1) = False := eq_false (by omega)
        have k3 : (9223372036854775807 < s.size + 2 + s1.size + 1 + s2.size) = False := eq_false (by omega)
        have HX : Hid (s ++ (⟨#[44, 32]⟩ : ByteArray) ++ s1 ++ (⟨#[32]⟩ : ByteArray) ++ s2 = mkB (Kp.pre c (i + 1))) := Lib.hid (by rw [HT.out, if_neg (by omega)]; apply ByteArray.ext; simp [ByteArray.data_append, Array.append_assoc])
        clear HT z0 z1 z2 hi0
        go_wp2_with fail
        go_region_held3 (fun w' => w'.cell? ⟨g, i, none⟩ = some (.string s1) ∧ w'.cell? ⟨ab, aoff + i, none⟩ = some (.int .i64 (n : Int))) (first | exact ⟨hcn, hcl⟩ | exact kg)
          ((go_at_call 14; refine (HN.out _).mono ?_; rintro r w5 ⟨rfl, b3⟩; have b4 := bTrans b0 b3; replace Y := Y.below b4; have kg := And.intro ((b4.cell (p := ⟨g, i, none⟩) hgl).trans hcn) ((b4.cell (p := ⟨ab, aoff + i, none⟩) hab).trans hcl)))
        clear kg b3 b4 hcn hcl k1 k2 k3 hab hgl b0 HN k0
        go_wp2_with fail
        go_roundw
        case rel => exact ⟨i + 1, by omega, by go_num, congrArg Value.string HX.out, Y⟩
        case measure => simp [intOf]; omega
      · have hi1 : ¬ (0 : Int) < (i : Int) := by omega
        have k1 : (9223372036854775807 < s.size + s1.size) = False := eq_false (by omega)
        have k2 : (9223372036854775807 < s.size + s1.size + 1) = False := eq_false (by omega)
        have k3 : (9223372036854775807 < s.size + s1.size + 1 + s2.size) = False := eq_false (by omega)
        have HX : Hid (s ++ s1 ++ (⟨#[32]⟩ : ByteArray) ++ s2 = mkB (Kp.pre c (i + 1))) := Lib.hid (by rw [HT.out, if_pos (by omega)]; apply ByteArray.ext; simp [ByteArray.data_append, Array.append_assoc])
        clear HT z0 z1 z2 hi0
        go_wp2_with fail
        go_region_held3 (fun w' => w'.cell? ⟨g, i, none⟩ = some (.string s1) ∧ w'.cell? ⟨ab, aoff + i, none⟩ = some (.int .i64 (n : Int))) (first | exact ⟨hcn, hcl⟩ | exact kg)
          ((go_at_call 14; refine (HN.out _).mono ?_; rintro r w5 ⟨rfl, b3⟩; have b4 := bTrans b0 b3; replace Y := Y.below b4; have kg := And.intro ((b4.cell (p := ⟨g, i, none⟩) hgl).trans hcn) ((b4.cell (p := ⟨ab, aoff + i, none⟩) hab).trans hcl)))
        clear kg b3 b4 hcn hcl k1 k2 k3 hab hgl b0 HN
        go_wp2_with fail
        go_roundw
        case rel => exact ⟨i + 1, by omega, by go_num, congrArg Value.string HX.out, Y⟩
        case measure => simp [intOf]; omega
    · obtain rfl : i = 13 := by omega
      have b2 := Y.bel
      rw [Kp.pre_all]
      go_wp2_with fail
      go_ret2
      exact ⟨rfl, b2⟩
end Go.Proofs.YtmemkcaikajnnaaGreatDoor
