/- Walk: part of the reference of package cost (written by gen/mkpart.py). -/
import Derived.Test.YtmemkcaikajnnaaGreatDoorU1
namespace Go.Proofs.YtmemkcaikajnnaaGreatDoor
open Go.RowKit Go.Sort
set_option linter.unusedVariables false

namespace Kp
def cap (v : Nat) : Nat := if 100 < v then 101 else v
theorem cap_le (v : Nat) : cap v ≤ 101 := by unfold cap; split <;> omega
theorem cap_step (v d : Nat) : cap (v * 10 + d) = if 100 < 10 * cap v + d then 101 else 10 * cap v + d := by
  unfold cap
  by_cases h : 100 < v
  · rw [if_pos h, if_pos (by omega), if_pos (by omega)]
  · rw [if_neg h, Nat.mul_comm v 10]
/-- where the letters end, where the spaces end -/
structure Pt (t : List UInt8) (A B : Nat) : Prop where
  le1 : A ≤ B
  le2 : B ≤ t.length
  hd_ : hd t = t.take A
  nm_ : nm t = t.drop B
  lo : ∀ i c, i < A → t[i]? = some c → low c = true
  nl : ∀ c, t[A]? = some c → low c = false
  sp_ : ∀ i c, A ≤ i → i < B → t[i]? = some c → c = 32
  ns : ∀ c, t[B]? = some c → c ≠ 32
theorem tw_facts (f : UInt8 → Bool) : ∀ t : List UInt8, ∃ A, A ≤ t.length ∧ t.takeWhile f = t.take A ∧ t.dropWhile f = t.drop A ∧ (∀ i c, i < A → t[i]? = some c → f c = true) ∧ (∀ c, t[A]? = some c → f c = false) := by
  intro t
  induction t with
  | nil => exact ⟨0, Nat.le_refl _, rfl, rfl, fun i c h => absurd h (Nat.not_lt_zero _), fun c h => by cases h⟩
  | cons a t ih =>
    by_cases ha : f a = true
    · obtain ⟨A, h1, h2, h3, h4, h5⟩ := ih
      refine ⟨A + 1, by simpa using h1, ?_, ?_, fun i c hi hc => ?_, fun c hc => h5 c hc⟩
      · rw [List.takeWhile_cons, if_pos ha, h2]; rfl
      · rw [List.dropWhile_cons, if_pos ha, h3]; rfl
      · cases i with
        | zero => injection hc with hc; rw [← hc]; exact ha
        | succ i => exact h4 i c (by omega) hc
    · refine ⟨0, Nat.zero_le _, ?_, ?_, fun i c h => absurd h (Nat.not_lt_zero _), fun c hc => ?_⟩
      · rw [List.takeWhile_cons, if_neg ha]; rfl
      · rw [List.dropWhile_cons, if_neg ha]; rfl
      · injection hc with hc; rw [← hc]; simpa using ha
theorem Pt.of (t : List UInt8) : ∃ A B, Pt t A B := by
  obtain ⟨A, h1, h2, h3, h4, h5⟩ := tw_facts low t
  obtain ⟨k, g1, g2, g3, g4, g5⟩ := tw_facts sp (t.drop A)
  rw [List.length_drop] at g1
  refine ⟨A, A + k, by omega, by omega, h2, ?_, h4, h5, fun i c hi hk hc => ?_, fun c hc => ?_⟩
  · show (t.dropWhile low).dropWhile sp = _
    rw [h3, g3, List.drop_drop]
  · have := g4 (i - A) c (by omega) (by rw [List.getElem?_drop, show A + (i - A) = i by omega]; exact hc)
    unfold sp at this
    simpa using this
  · have := g5 c (by rw [List.getElem?_drop]; exact hc)
    unfold sp at this
    simpa using this
theorem Pt.ok {t : List UInt8} {A B : Nat} (h : Pt t A B) : pOk t = (decide (A ≠ 0) && decide (A ≠ B) && isNum (t.drop B)) := by
  have hl := h.le1
  have hl2 := h.le2
  rw [(part_ref t).1, h.nm_, h.hd_]
  have e1 : (!(t.take A).isEmpty) = decide (A ≠ 0) := by
    by_cases hA : A = 0
    · subst hA; rfl
    · rw [decide_eq_true hA]
      cases hh : t.take A with
      | nil =>
        have h9 := congrArg List.length hh
        rw [List.length_take] at h9
        have h8 : min A t.length = 0 := h9
        omega
      | cons _ _ => rfl
  have e2 : ((tl t).length != (t.drop B).length) = decide (A ≠ B) := by
    have : t = hd t ++ tl t := (List.takeWhile_append_dropWhile).symm
    have h3 := congrArg List.length this
    rw [List.length_append, h.hd_, List.length_take] at h3
    rw [List.length_drop]
    by_cases hA : A = B
    · rw [decide_eq_false (by simpa using hA), bne_eq_false_iff_eq]; omega
    · rw [decide_eq_true hA, bne_iff_ne]; omega
  rw [e1, e2]
theorem Pt.word {t : List UInt8} {A B : Nat} (h : Pt t A B) (ho : pOk t = true) : word t = t.take A ∧ num t = t.drop B := by
  have := (part_ref t).2 ho
  rw [this.1, this.2]; exact ⟨h.hd_, h.nm_⟩
end Kp
/-- what part hands back -/
def RpP (p : List UInt8) (r : Ending) : Prop :=
  (Kp.pOk p = true ∧ r = .returned (.tuple #[.string (mkB (Kp.word p)), .int .i64 (Kp.cap (Kp.valN (Kp.num p)) : Int), .bool true])) ∨ (Kp.pOk p = false ∧ r = .returned (.tuple #[.string ⟨#[]⟩, .int .i64 0, .bool false]))
theorem Pt_bad {t : List UInt8} {A B : Nat} (h : Kp.Pt t A B) (hb : A = 0 ∨ A = B ∨ Kp.isNum (t.drop B) = false) : Kp.pOk t = false := by
  rw [h.ok]
  rcases hb with h | h | h
  · rw [decide_eq_false (fun hn => hn h)]; rfl
  · have e : decide (A ≠ B) = false := decide_eq_false (fun hn => hn h)
    rw [e, Bool.and_false]; rfl
  · rw [h, Bool.and_false]
theorem num_long {t : List UInt8} {B : Nat} {c : UInt8} (hc : t[B]? = some c) (h48 : c = 48) (hl : B + 1 < t.length) : Kp.isNum (t.drop B) = false := by
  have hb : B < t.length := by omega
  have e : t.drop B = 48 :: t.drop (B + 1) := by
    rw [List.drop_eq_getElem_cons hb]
    rw [List.getElem?_eq_getElem hb] at hc
    injection hc with hc
    rw [hc, h48]
  unfold Kp.isNum
  have e2 : (t.drop B == [48]) = false := by
    rw [beq_eq_false_iff_ne]; intro h
    have := congrArg List.length h
    rw [List.length_drop] at this
    simp at this; omega
  rw [e2, e]; simp
theorem num_good {t : List UInt8} {B : Nat} {c : UInt8} (hb : B < t.length) (hc : t[B]? = some c) (h48 : c ≠ 48 ∨ B + 1 = t.length) (hall : (t.drop B).all Kp.dig = true) : Kp.isNum (t.drop B) = true := by
  have e : t.drop B = c :: t.drop (B + 1) := by
    rw [List.drop_eq_getElem_cons hb]
    rw [List.getElem?_eq_getElem hb] at hc
    injection hc with hc
    rw [hc]
  unfold Kp.isNum
  rw [hall, Bool.true_and, e]
  rcases h48 with h | h
  · simp [h]
  · rw [List.drop_of_length_le (by omega)]
    by_cases h2 : c = 48
    · subst h2; rfl
    · simp [h2]
theorem num_empty {t : List UInt8} {B : Nat} (h : B = t.length) : Kp.isNum (t.drop B) = false := by
  rw [h, List.drop_length]; rfl
theorem digs_bad {t : List UInt8} {B i : Nat} {c : UInt8} (hB : B ≤ i) (hc : t[i]? = some c) (hd : Kp.dig c = false) : Kp.isNum (t.drop B) = false := by
  cases hn : Kp.isNum (t.drop B) with
  | false => rfl
  | true =>
    have hm : c ∈ t.drop B := List.mem_of_getElem? (i := i - B) (by rw [List.getElem?_drop, show B + (i - B) = i by omega]; exact hc)
    rw [List.all_eq_true.1 (Kp.isNum_all hn) c hm] at hd
    cases hd
theorem mid_snoc {t : List UInt8} {B i : Nat} {c : UInt8} (hB : B ≤ i) (hc : t[i]? = some c) : (t.take (i + 1)).drop B = (t.take i).drop B ++ [c] := by
  have hi : i < t.length := by
    rcases Nat.lt_or_ge i t.length with h | h
    · exact h
    · rw [List.getElem?_eq_none h] at hc; cases hc
  rw [List.getElem?_eq_getElem hi] at hc
  injection hc with hc
  rw [List.take_succ_eq_append_getElem hi, hc, List.drop_append_of_le_length (by rw [List.length_take]; omega)]
set_option maxRecDepth 100000 in
set_option maxHeartbeats 4000000 in
theorem rpart_EE (s : ByteArray) (hs : s.size ≤ 100000) (A B : Nat) (hP : Kp.Pt (bs s) A B) (hA : A = s.size) (hB : B = s.size) (w : World) : Calls Tryz.prog 29 #[.string s] w fun r w' => RpP (bs s) r ∧ Below w.heap.size w w' := by
  have HPT := Lib.hid hP
  have HLE := Lib.hid (bs_length s)
  have HS := Lib.hid hs
  have hl1 := hP.le1
  have hl2 : B ≤ s.size := by have := hP.le2; rwa [bs_length] at this
  have HGET : Hid (∀ i (h : i < s.size), (bs s)[i]? = some s[i]) := Lib.hid (fun i h => at_byteK h)
  have HAe := Lib.hid hA
  clear hA
  have HBe := Lib.hid hB
  clear hB
  clear hs hP
  go_enter Tryz.func29, Tryz.ntmps29
  go_wp2_with fail
  go_loopw [5] (fun iv wr => ∃ i : Nat, i ≤ A ∧ iv = .int .i64 (i : Int) ∧ Below w.heap.size w wr) (fun iv _ => A - (intOf iv).toNat)
  case atStart => exact ⟨0, Nat.zero_le _, rfl, Below.refl _ _⟩
  case round =>
    obtain ⟨i, hi, rfl, bel⟩ := hrel
    by_cases hlt : i < A
    · have hls : i < s.size := by omega
      have hlsI : (i : Int) < (s.size : Int) := by omega
      have hlsD : decide ((i : Int) < (s.size : Int)) = true := decide_eq_true hlsI
      obtain ⟨x, hx⟩ : ∃ x : Nat, s[i].toNat = x := ⟨_, rfl⟩
      have hix := index_run3 (x := (x : Int)) hls (by rw [hx])
      have hlow : 97 ≤ x ∧ x ≤ 122 := by have h := HPT.out.lo i _ hlt (HGET.out i hls); unfold Kp.low at h; rw [hx, Bool.and_eq_true] at h; exact ⟨of_decide_eq_true h.1, of_decide_eq_true h.2⟩
      have g1 : (97 : Int) ≤ (x : Int) := by omega
      have g1D : decide ((97 : Int) ≤ (x : Int)) = true := decide_eq_true g1
      have g2 : (x : Int) ≤ 122 := by omega
      have g2D : decide ((x : Int) ≤ 122) = true := decide_eq_true g2
      have hwk : IntKind.i64.wrap ((i : Int) + 1) = ((i + 1 : Nat) : Int) := (IntWalk.i64_in _ (by have := HS.out; omega)).trans (by omega)
      have HI := Lib.hid (show i + 1 ≤ A by omega)
      clear hlow hx
      go_wp2_with fail
      go_roundw
      case rel => exact ⟨i + 1, HI.out, by first | go_num | rfl, bel⟩
      case measure => (have := HI.out; first | (simp [intOf]; omega) | (simp [intOf, hwk]; omega))
    · obtain rfl : i = A := by omega
      have q1I : ¬ (i : Int) < (s.size : Int) := by have := HAe.out; omega
      have q1D : decide ((i : Int) < (s.size : Int)) = false := decide_eq_false q1I
      have hsl : (i : Int) ≤ (s.size : Int) := by omega
      go_wp2_with fail
      go_loopw [7] (fun jv wr => ∃ j : Nat, i ≤ j ∧ j ≤ B ∧ jv = .int .i64 (j : Int) ∧ Below w.heap.size w wr) (fun jv _ => B - (intOf jv).toNat)
      case atStart => exact ⟨i, Nat.le_refl _, hl1, rfl, bel⟩
      case round =>
        clear bel
        obtain ⟨j, hij, hj, rfl, bel⟩ := hrel
        by_cases hjlt : j < B
        · have hls : j < s.size := by omega
          have hlsI : (j : Int) < (s.size : Int) := by omega
          have hlsD : decide ((j : Int) < (s.size : Int)) = true := decide_eq_true hlsI
          obtain ⟨y, hy⟩ : ∃ y : Nat, s[j].toNat = y := ⟨_, rfl⟩
          have hjx := index_run3 (x := (y : Int)) hls (by rw [hy])
          have h32 : y = 32 := by rw [← hy, HPT.out.sp_ j _ hij hjlt (HGET.out j hls)]; rfl
          have s1 : ((y : Int) == 32) = true := by rw [h32]; rfl
          have hwk : IntKind.i64.wrap ((j : Int) + 1) = ((j + 1 : Nat) : Int) := (IntWalk.i64_in _ (by have := HS.out; omega)).trans (by omega)
          have HI := Lib.hid (show i ≤ j + 1 ∧ j + 1 ≤ B by omega)
          clear h32 hy
          go_wp2_with fail
          go_roundw
          case rel => exact ⟨j + 1, HI.out.1, HI.out.2, by first | go_num | rfl, bel⟩
          case measure => (have := HI.out; first | (simp [intOf]; omega) | (simp [intOf, hwk]; omega))
        · obtain rfl : j = B := by omega
          have s1I : ¬ (j : Int) < (s.size : Int) := by have := HBe.out; omega
          have s1D : decide ((j : Int) < (s.size : Int)) = false := decide_eq_false s1I
          by_cases h0 : i = 0
          · have t1 : ((i : Int) == 0) = true := by rw [h0]; rfl
            have HB : Hid (Kp.pOk (bs s) = false) := Lib.hid (Pt_bad HPT.out (.inl h0))
            clear h0
            go_wp2_with fail
            go_ret3
            exact ⟨.inr ⟨HB.out, rfl⟩, bel⟩
          · have t1 : ((i : Int) == 0) = false := by rw [beq_eq_false_iff_ne]; omega
            by_cases hAB : j = i
            · have t2 : ((j : Int) == (i : Int)) = true := by rw [hAB]; exact beq_self_eq_true _
              have HB : Hid (Kp.pOk (bs s) = false) := Lib.hid (Pt_bad HPT.out (.inr (.inl hAB.symm)))
              clear hAB
              go_wp2_with fail
              go_ret3
              exact ⟨.inr ⟨HB.out, rfl⟩, bel⟩
            · have t2 : ((j : Int) == (i : Int)) = false := by rw [beq_eq_false_iff_ne]; omega
              have t3 : ((j : Int) == (s.size : Int)) = true := by rw [beq_iff_eq]; have := HBe.out; omega
              have HB : Hid (Kp.pOk (bs s) = false) := Lib.hid (Pt_bad HPT.out (.inr (.inr (num_empty (by rw [HLE.out]; exact HBe.out)))))
              go_wp2_with fail
              go_ret3
              exact ⟨.inr ⟨HB.out, rfl⟩, bel⟩

set_option maxRecDepth 100000 in
set_option maxHeartbeats 4000000 in
theorem rpart_LE (s : ByteArray) (hs : s.size ≤ 100000) (A B : Nat) (hP : Kp.Pt (bs s) A B) (hA : ∃ h : A < s.size, s[A].toNat < 97) (hB : B = s.size) (w : World) : Calls Tryz.prog 29 #[.string s] w fun r w' => RpP (bs s) r ∧ Below w.heap.size w w' := by
  have HPT := Lib.hid hP
  have HLE := Lib.hid (bs_length s)
  have HS := Lib.hid hs
  have hl1 := hP.le1
  have hl2 : B ≤ s.size := by have := hP.le2; rwa [bs_length] at this
  have HGET : Hid (∀ i (h : i < s.size), (bs s)[i]? = some s[i]) := Lib.hid (fun i h => at_byteK h)
  obtain ⟨hAlt, hAx⟩ := hA
  have HBe := Lib.hid hB
  clear hB
  clear hs hP
  go_enter Tryz.func29, Tryz.ntmps29
  go_wp2_with fail
  go_loopw [5] (fun iv wr => ∃ i : Nat, i ≤ A ∧ iv = .int .i64 (i : Int) ∧ Below w.heap.size w wr) (fun iv _ => A - (intOf iv).toNat)
  case atStart => exact ⟨0, Nat.zero_le _, rfl, Below.refl _ _⟩
  case round =>
    obtain ⟨i, hi, rfl, bel⟩ := hrel
    by_cases hlt : i < A
    · have hls : i < s.size := by omega
      have hlsI : (i : Int) < (s.size : Int) := by omega
      have hlsD : decide ((i : Int) < (s.size : Int)) = true := decide_eq_true hlsI
      obtain ⟨x, hx⟩ : ∃ x : Nat, s[i].toNat = x := ⟨_, rfl⟩
      have hix := index_run3 (x := (x : Int)) hls (by rw [hx])
      have hlow : 97 ≤ x ∧ x ≤ 122 := by have h := HPT.out.lo i _ hlt (HGET.out i hls); unfold Kp.low at h; rw [hx, Bool.and_eq_true] at h; exact ⟨of_decide_eq_true h.1, of_decide_eq_true h.2⟩
      have g1 : (97 : Int) ≤ (x : Int) := by omega
      have g1D : decide ((97 : Int) ≤ (x : Int)) = true := decide_eq_true g1
      have g2 : (x : Int) ≤ 122 := by omega
      have g2D : decide ((x : Int) ≤ 122) = true := decide_eq_true g2
      have hwk : IntKind.i64.wrap ((i : Int) + 1) = ((i + 1 : Nat) : Int) := (IntWalk.i64_in _ (by have := HS.out; omega)).trans (by omega)
      have HI := Lib.hid (show i + 1 ≤ A by omega)
      clear hAx
      clear hlow hx
      go_wp2_with fail
      go_roundw
      case rel => exact ⟨i + 1, HI.out, by first | go_num | rfl, bel⟩
      case measure => (have := HI.out; first | (simp [intOf]; omega) | (simp [intOf, hwk]; omega))
    · obtain rfl : i = A := by omega
      have q1I : (i : Int) < (s.size : Int) := by omega
      have q1D : decide ((i : Int) < (s.size : Int)) = true := decide_eq_true q1I
      obtain ⟨x, hx⟩ : ∃ x : Nat, s[i].toNat = x := ⟨_, rfl⟩
      have hix := index_run3 (x := (x : Int)) hAlt (by rw [hx])
      rw [hx] at hAx
      have q2I : ¬ (97 : Int) ≤ (x : Int) := by omega
      have q2D : decide ((97 : Int) ≤ (x : Int)) = false := decide_eq_false q2I
      clear hAx hx
      have hsl : (i : Int) ≤ (s.size : Int) := by omega
      go_wp2_with fail
      go_loopw [7] (fun jv wr => ∃ j : Nat, i ≤ j ∧ j ≤ B ∧ jv = .int .i64 (j : Int) ∧ Below w.heap.size w wr) (fun jv _ => B - (intOf jv).toNat)
      case atStart => exact ⟨i, Nat.le_refl _, hl1, rfl, bel⟩
      case round =>
        clear bel
        obtain ⟨j, hij, hj, rfl, bel⟩ := hrel
        by_cases hjlt : j < B
        · have hls : j < s.size := by omega
          have hlsI : (j : Int) < (s.size : Int) := by omega
          have hlsD : decide ((j : Int) < (s.size : Int)) = true := decide_eq_true hlsI
          obtain ⟨y, hy⟩ : ∃ y : Nat, s[j].toNat = y := ⟨_, rfl⟩
          have hjx := index_run3 (x := (y : Int)) hls (by rw [hy])
          have h32 : y = 32 := by rw [← hy, HPT.out.sp_ j _ hij hjlt (HGET.out j hls)]; rfl
          have s1 : ((y : Int) == 32) = true := by rw [h32]; rfl
          have hwk : IntKind.i64.wrap ((j : Int) + 1) = ((j + 1 : Nat) : Int) := (IntWalk.i64_in _ (by have := HS.out; omega)).trans (by omega)
          have HI := Lib.hid (show i ≤ j + 1 ∧ j + 1 ≤ B by omega)
          clear h32 hy
          go_wp2_with fail
          go_roundw
          case rel => exact ⟨j + 1, HI.out.1, HI.out.2, by first | go_num | rfl, bel⟩
          case measure => (have := HI.out; first | (simp [intOf]; omega) | (simp [intOf, hwk]; omega))
        · obtain rfl : j = B := by omega
          have s1I : ¬ (j : Int) < (s.size : Int) := by have := HBe.out; omega
          have s1D : decide ((j : Int) < (s.size : Int)) = false := decide_eq_false s1I
          by_cases h0 : i = 0
          · have t1 : ((i : Int) == 0) = true := by rw [h0]; rfl
            have HB : Hid (Kp.pOk (bs s) = false) := Lib.hid (Pt_bad HPT.out (.inl h0))
            clear h0
            go_wp2_with fail
            go_ret3
            exact ⟨.inr ⟨HB.out, rfl⟩, bel⟩
          · have t1 : ((i : Int) == 0) = false := by rw [beq_eq_false_iff_ne]; omega
            by_cases hAB : j = i
            · have t2 : ((j : Int) == (i : Int)) = true := by rw [hAB]; exact beq_self_eq_true _
              have HB : Hid (Kp.pOk (bs s) = false) := Lib.hid (Pt_bad HPT.out (.inr (.inl hAB.symm)))
              clear hAB
              go_wp2_with fail
              go_ret3
              exact ⟨.inr ⟨HB.out, rfl⟩, bel⟩
            · have t2 : ((j : Int) == (i : Int)) = false := by rw [beq_eq_false_iff_ne]; omega
              have t3 : ((j : Int) == (s.size : Int)) = true := by rw [beq_iff_eq]; have := HBe.out; omega
              have HB : Hid (Kp.pOk (bs s) = false) := Lib.hid (Pt_bad HPT.out (.inr (.inr (num_empty (by rw [HLE.out]; exact HBe.out)))))
              go_wp2_with fail
              go_ret3
              exact ⟨.inr ⟨HB.out, rfl⟩, bel⟩

set_option maxRecDepth 100000 in
set_option maxHeartbeats 4000000 in
theorem rpart_LN (s : ByteArray) (hs : s.size ≤ 100000) (A B : Nat) (hP : Kp.Pt (bs s) A B) (hA : ∃ h : A < s.size, s[A].toNat < 97) (hB : ∃ h : B < s.size, s[B].toNat ≠ 32) (w : World) : Calls Tryz.prog 29 #[.string s] w fun r w' => RpP (bs s) r ∧ Below w.heap.size w w' := by
  have HPT := Lib.hid hP
  have HLE := Lib.hid (bs_length s)
  have HS := Lib.hid hs
  have hl1 := hP.le1
  have hl2 : B ≤ s.size := by have := hP.le2; rwa [bs_length] at this
  have HGET : Hid (∀ i (h : i < s.size), (bs s)[i]? = some s[i]) := Lib.hid (fun i h => at_byteK h)
  obtain ⟨hAlt, hAx⟩ := hA
  obtain ⟨hBlt, hBx⟩ := hB
  clear hs hP
  go_enter Tryz.func29, Tryz.ntmps29
  go_wp2_with fail
  go_loopw [5] (fun iv wr => ∃ i : Nat, i ≤ A ∧ iv = .int .i64 (i : Int) ∧ Below w.heap.size w wr) (fun iv _ => A - (intOf iv).toNat)
  case atStart => exact ⟨0, Nat.zero_le _, rfl, Below.refl _ _⟩
  case round =>
    obtain ⟨i, hi, rfl, bel⟩ := hrel
    by_cases hlt : i < A
    · have hls : i < s.size := by omega
      have hlsI : (i : Int) < (s.size : Int) := by omega
      have hlsD : decide ((i : Int) < (s.size : Int)) = true := decide_eq_true hlsI
      obtain ⟨x, hx⟩ : ∃ x : Nat, s[i].toNat = x := ⟨_, rfl⟩
      have hix := index_run3 (x := (x : Int)) hls (by rw [hx])
      have hlow : 97 ≤ x ∧ x ≤ 122 := by have h := HPT.out.lo i _ hlt (HGET.out i hls); unfold Kp.low at h; rw [hx, Bool.and_eq_true] at h; exact ⟨of_decide_eq_true h.1, of_decide_eq_true h.2⟩
      have g1 : (97 : Int) ≤ (x : Int) := by omega
      have g1D : decide ((97 : Int) ≤ (x : Int)) = true := decide_eq_true g1
      have g2 : (x : Int) ≤ 122 := by omega
      have g2D : decide ((x : Int) ≤ 122) = true := decide_eq_true g2
      have hwk : IntKind.i64.wrap ((i : Int) + 1) = ((i + 1 : Nat) : Int) := (IntWalk.i64_in _ (by have := HS.out; omega)).trans (by omega)
      have HI := Lib.hid (show i + 1 ≤ A by omega)
      clear hAx
      clear hBx
      clear hlow hx
      go_wp2_with fail
      go_roundw
      case rel => exact ⟨i + 1, HI.out, by first | go_num | rfl, bel⟩
      case measure => (have := HI.out; first | (simp [intOf]; omega) | (simp [intOf, hwk]; omega))
    · obtain rfl : i = A := by omega
      have q1I : (i : Int) < (s.size : Int) := by omega
      have q1D : decide ((i : Int) < (s.size : Int)) = true := decide_eq_true q1I
      obtain ⟨x, hx⟩ : ∃ x : Nat, s[i].toNat = x := ⟨_, rfl⟩
      have hix := index_run3 (x := (x : Int)) hAlt (by rw [hx])
      rw [hx] at hAx
      have q2I : ¬ (97 : Int) ≤ (x : Int) := by omega
      have q2D : decide ((97 : Int) ≤ (x : Int)) = false := decide_eq_false q2I
      clear hAx hx
      have hsl : (i : Int) ≤ (s.size : Int) := by omega
      go_wp2_with fail
      go_loopw [7] (fun jv wr => ∃ j : Nat, i ≤ j ∧ j ≤ B ∧ jv = .int .i64 (j : Int) ∧ Below w.heap.size w wr) (fun jv _ => B - (intOf jv).toNat)
      case atStart => exact ⟨i, Nat.le_refl _, hl1, rfl, bel⟩
      case round =>
        clear bel
        obtain ⟨j, hij, hj, rfl, bel⟩ := hrel
        by_cases hjlt : j < B
        · have hls : j < s.size := by omega
          have hlsI : (j : Int) < (s.size : Int) := by omega
          have hlsD : decide ((j : Int) < (s.size : Int)) = true := decide_eq_true hlsI
          obtain ⟨y, hy⟩ : ∃ y : Nat, s[j].toNat = y := ⟨_, rfl⟩
          have hjx := index_run3 (x := (y : Int)) hls (by rw [hy])
          have h32 : y = 32 := by rw [← hy, HPT.out.sp_ j _ hij hjlt (HGET.out j hls)]; rfl
          have s1 : ((y : Int) == 32) = true := by rw [h32]; rfl
          have hwk : IntKind.i64.wrap ((j : Int) + 1) = ((j + 1 : Nat) : Int) := (IntWalk.i64_in _ (by have := HS.out; omega)).trans (by omega)
          have HI := Lib.hid (show i ≤ j + 1 ∧ j + 1 ≤ B by omega)
          clear hBx
          clear h32 hy
          go_wp2_with fail
          go_roundw
          case rel => exact ⟨j + 1, HI.out.1, HI.out.2, by first | go_num | rfl, bel⟩
          case measure => (have := HI.out; first | (simp [intOf]; omega) | (simp [intOf, hwk]; omega))
        · obtain rfl : j = B := by omega
          have s1I : (j : Int) < (s.size : Int) := by omega
          have s1D : decide ((j : Int) < (s.size : Int)) = true := decide_eq_true s1I
          obtain ⟨y, hy⟩ : ∃ y : Nat, s[j].toNat = y := ⟨_, rfl⟩
          have hjx := index_run3 (x := (y : Int)) hBlt (by rw [hy])
          rw [hy] at hBx
          have s2 : ((y : Int) == 32) = false := by rw [beq_eq_false_iff_ne]; omega
          by_cases h0 : i = 0
          · have t1 : ((i : Int) == 0) = true := by rw [h0]; rfl
            have HB : Hid (Kp.pOk (bs s) = false) := Lib.hid (Pt_bad HPT.out (.inl h0))
            clear h0
            go_wp2_with fail
            go_ret3
            exact ⟨.inr ⟨HB.out, rfl⟩, bel⟩
          · have t1 : ((i : Int) == 0) = false := by rw [beq_eq_false_iff_ne]; omega
            by_cases hAB : j = i
            · have t2 : ((j : Int) == (i : Int)) = true := by rw [hAB]; exact beq_self_eq_true _
              have HB : Hid (Kp.pOk (bs s) = false) := Lib.hid (Pt_bad HPT.out (.inr (.inl hAB.symm)))
              clear hAB
              go_wp2_with fail
              go_ret3
              exact ⟨.inr ⟨HB.out, rfl⟩, bel⟩
            · have t2 : ((j : Int) == (i : Int)) = false := by rw [beq_eq_false_iff_ne]; omega
              have t3 : ((j : Int) == (s.size : Int)) = false := by rw [beq_eq_false_iff_ne]; omega
              have hwk : IntKind.i64.wrap ((j : Int) + 1) = ((j + 1 : Nat) : Int) := (IntWalk.i64_in _ (by have := HS.out; omega)).trans (by omega)
              have hyb := HGET.out j hBlt
              by_cases h48 : y = 48
              · have t4 : ((y : Int) == 48) = true := by rw [h48]; rfl
                have hyc : s[j] = 48 := UInt8.toNat_inj.1 (show s[j].toNat = (48 : UInt8).toNat from hy.trans h48)
                by_cases hone : j + 1 < s.size
                · have t5 : (j : Int) + 1 < (s.size : Int) := by omega
                  have t5D : decide ((j : Int) + 1 < (s.size : Int)) = true := decide_eq_true t5
                  have HB : Hid (Kp.pOk (bs s) = false) := Lib.hid (Pt_bad HPT.out (.inr (.inr (num_long hyb hyc (by rw [HLE.out]; exact hone)))))
                  go_wp2_with fail
                  go_ret3
                  exact ⟨.inr ⟨HB.out, rfl⟩, bel⟩
                · have t5 : ¬ (j : Int) + 1 < (s.size : Int) := by omega
                  have t5D : decide ((j : Int) + 1 < (s.size : Int)) = false := decide_eq_false t5
                  have HG8 : Hid (∀ h : ((bs s).drop j).all Kp.dig = true, Kp.isNum ((bs s).drop j) = true) := Lib.hid (num_good (by rw [HLE.out]; exact hBlt) hyb (.inr (by rw [HLE.out]; omega)))
                  clear hyc hone h48
                  clear hBx hyb hy
                  have HOK : Hid (i ≠ 0 ∧ i ≠ j) := Lib.hid ⟨h0, fun e => hAB e.symm⟩
                  have HJS := Lib.hid hBlt
                  clear h0 hAB
                  go_wp2_with fail
                  go_loopw [8, 9] (fun nv kv wr => ∃ k v : Nat, j ≤ k ∧ k ≤ s.size ∧ kv = .int .i64 (k : Int) ∧ nv = .int .i64 (v : Int) ∧ v ≤ 101 ∧ Hid (v = Kp.cap (Kp.valN (((bs s).take k).drop j)) ∧ (((bs s).take k).drop j).all Kp.dig = true) ∧ Below w.heap.size w wr) (fun _ kv _ => s.size - (intOf kv).toNat)
                  case atStart => exact ⟨j, 0, Nat.le_refl _, hl2, rfl, rfl, by decide, Lib.hid (by have e : ((bs s).take j).drop j = [] := List.drop_of_length_le (by rw [List.length_take]; omega); rw [e]; exact ⟨rfl, rfl⟩), bel⟩
                  case round =>
                    clear bel
                    obtain ⟨k, v, hjk, hk, rfl, rfl, hv, HV, bel⟩ := hrel
                    by_cases hkl : k < s.size
                    · have hkI : (k : Int) < (s.size : Int) := by omega
                      have hkD : decide ((k : Int) < (s.size : Int)) = true := decide_eq_true hkI
                      obtain ⟨u, hu⟩ : ∃ u : Nat, s[k].toNat = u := ⟨_, rfl⟩
                      have hkx := index_run3 (x := (u : Int)) hkl (by rw [hu])
                      have hub := HGET.out k hkl
                      have hwk2 : IntKind.i64.wrap ((k : Int) + 1) = ((k + 1 : Nat) : Int) := (IntWalk.i64_in _ (by have := HS.out; omega)).trans (by omega)
                      by_cases hu1 : u < 48
                      · have u1 : (u : Int) < 48 := by omega
                        have u1D : decide ((u : Int) < 48) = true := decide_eq_true u1
                        have HB : Hid (Kp.pOk (bs s) = false) := Lib.hid (Pt_bad HPT.out (.inr (.inr (digs_bad hjk hub (by unfold Kp.dig; rw [hu]; simp; omega)))))
                        go_wp2_with fail
                        go_ret3
                        exact ⟨.inr ⟨HB.out, rfl⟩, bel⟩
                      · have u1 : ¬ (u : Int) < 48 := by omega
                        have u1D : decide ((u : Int) < 48) = false := decide_eq_false u1
                        by_cases hu2 : 57 < u
                        · have u2 : (57 : Int) < (u : Int) := by omega
                          have u2D : decide ((57 : Int) < (u : Int)) = true := decide_eq_true u2
                          have HB : Hid (Kp.pOk (bs s) = false) := Lib.hid (Pt_bad HPT.out (.inr (.inr (digs_bad hjk hub (by unfold Kp.dig; rw [hu]; simp; omega)))))
                          go_wp2_with fail
                          go_ret3
                          exact ⟨.inr ⟨HB.out, rfl⟩, bel⟩
                        · have u2 : ¬ (57 : Int) < (u : Int) := by omega
                          have u2D : decide ((57 : Int) < (u : Int)) = false := decide_eq_false u2
                          obtain ⟨d, hd⟩ : ∃ d, u = d + 48 := ⟨u - 48, by omega⟩
                          subst hd
                          obtain ⟨Q, hQ⟩ : ∃ Q : Nat, Q = 10 * v + d := ⟨_, rfl⟩
                          obtain ⟨M, hM⟩ : ∃ M : Nat, M = 10 * v := ⟨_, rfl⟩
                          have HV2 : Hid ((if 100 < Q then 101 else Q) = Kp.cap (Kp.valN (((bs s).take (k + 1)).drop j)) ∧ (((bs s).take (k + 1)).drop j).all Kp.dig = true) := Lib.hid (by
                            obtain ⟨a1, a2⟩ := HV.out
                            rw [mid_snoc hjk hub, Kp.val_snoc, hu, List.all_append, a2, show d + 48 - 48 = d by omega, Kp.cap_step, ← a1, hQ]
                            refine ⟨rfl, ?_⟩
                            have : Kp.dig s[k] = true := by unfold Kp.dig; rw [hu]; simp; omega
                            simp [this])
                          have w1 : IntKind.i64.wrap (10 * (v : Int)) = (M : Int) := by rw [IntWalk.i64_in _ (by omega), hM]; omega
                          have w2 : IntKind.u8.wrap (((d + 48 : Nat) : Int) - 48) = (d : Int) := by rw [IntWalk.u8_in _ (by omega)]; omega
                          have w2b : IntKind.u8.wrap ((d : Int) + 48 - 48) = (d : Int) := by rw [IntWalk.u8_in _ (by omega)]; omega
                          have w2c : IntKind.u8.wrap (d : Int) = (d : Int) := IntWalk.u8_in _ (by omega)
                          have w3 : IntKind.i64.wrap (d : Int) = (d : Int) := IntWalk.i64_in _ (by omega)
                          have w4 : IntKind.i64.wrap ((M : Int) + (d : Int)) = (Q : Int) := by rw [IntWalk.i64_in _ (by omega)]; omega
                          have hKB := Lib.hid (show j ≤ k + 1 ∧ k + 1 ≤ s.size by omega)
                          by_cases hbig : 100 < Q
                          · have r1 : (100 : Int) < (Q : Int) := by omega
                            have r1D : decide ((100 : Int) < (Q : Int)) = true := decide_eq_true r1
                            have r1N : decide (100 < Q) = true := decide_eq_true hbig
                            rw [if_pos hbig] at HV2
                            clear hQ hM hub hu
                            go_wp2_with fail
                            go_roundw
                            case rel => exact ⟨k + 1, 101, hKB.out.1, hKB.out.2, by first | go_num | rfl, rfl, by decide, HV2, bel⟩
                            case measure => (have := hKB.out; first | (simp [intOf]; omega) | (simp [intOf, hwk2]; omega))
                          · have r1 : ¬ (100 : Int) < (Q : Int) := by omega
                            have r1D : decide ((100 : Int) < (Q : Int)) = false := decide_eq_false r1
                            have r1N : decide (100 < Q) = false := decide_eq_false hbig
                            rw [if_neg hbig] at HV2
                            have HQB := Lib.hid (show Q ≤ 101 by omega)
                            clear hQ hM hub hu
                            go_wp2_with fail
                            go_roundw
                            case rel => exact ⟨k + 1, Q, hKB.out.1, hKB.out.2, by first | go_num | rfl, rfl, HQB.out, HV2, bel⟩
                            case measure => (have := hKB.out; first | (simp [intOf]; omega) | (simp [intOf, hwk2]; omega))
                    · obtain rfl : k = s.size := by omega
                      have hkI : ¬ (s.size : Int) < (s.size : Int) := by omega
                      have HFIN : Hid (Kp.pOk (bs s) = true ∧ Kp.word (bs s) = (bs s).take i ∧ v = Kp.cap (Kp.valN (Kp.num (bs s)))) := Lib.hid (by
                        obtain ⟨a1, a2⟩ := HV.out
                        rw [← HLE.out, List.take_length] at a1 a2
                        have hok : Kp.pOk (bs s) = true := by rw [HPT.out.ok, HG8.out a2, decide_eq_true HOK.out.1, decide_eq_true HOK.out.2]; rfl
                        have := HPT.out.word hok
                        rw [this.1, this.2]
                        exact ⟨hok, rfl, a1⟩)
                      go_wp2_with fail
                      go_ret3
                      exact ⟨.inl ⟨HFIN.out.1, by rw [HFIN.out.2.1, ← HFIN.out.2.2, ← ext_to]; rfl⟩, bel⟩
              · have t4 : ((y : Int) == 48) = false := by rw [beq_eq_false_iff_ne]; omega
                have HG8 : Hid (∀ h : ((bs s).drop j).all Kp.dig = true, Kp.isNum ((bs s).drop j) = true) := Lib.hid (num_good (by rw [HLE.out]; exact hBlt) hyb (.inl (fun e => h48 (by rw [← hy, e]; rfl))))
                clear h48
                clear hBx hyb hy
                have HOK : Hid (i ≠ 0 ∧ i ≠ j) := Lib.hid ⟨h0, fun e => hAB e.symm⟩
                have HJS := Lib.hid hBlt
                clear h0 hAB
                go_wp2_with fail
                go_loopw [8, 9] (fun nv kv wr => ∃ k v : Nat, j ≤ k ∧ k ≤ s.size ∧ kv = .int .i64 (k : Int) ∧ nv = .int .i64 (v : Int) ∧ v ≤ 101 ∧ Hid (v = Kp.cap (Kp.valN (((bs s).take k).drop j)) ∧ (((bs s).take k).drop j).all Kp.dig = true) ∧ Below w.heap.size w wr) (fun _ kv _ => s.size - (intOf kv).toNat)
                case atStart => exact ⟨j, 0, Nat.le_refl _, hl2, rfl, rfl, by decide, Lib.hid (by have e : ((bs s).take j).drop j = [] := List.drop_of_length_le (by rw [List.length_take]; omega); rw [e]; exact ⟨rfl, rfl⟩), bel⟩
                case round =>
                  clear bel
                  obtain ⟨k, v, hjk, hk, rfl, rfl, hv, HV, bel⟩ := hrel
                  by_cases hkl : k < s.size
                  · have hkI : (k : Int) < (s.size : Int) := by omega
                    have hkD : decide ((k : Int) < (s.size : Int)) = true := decide_eq_true hkI
                    obtain ⟨u, hu⟩ : ∃ u : Nat, s[k].toNat = u := ⟨_, rfl⟩
                    have hkx := index_run3 (x := (u : Int)) hkl (by rw [hu])
                    have hub := HGET.out k hkl
                    have hwk2 : IntKind.i64.wrap ((k : Int) + 1) = ((k + 1 : Nat) : Int) := (IntWalk.i64_in _ (by have := HS.out; omega)).trans (by omega)
                    by_cases hu1 : u < 48
                    · have u1 : (u : Int) < 48 := by omega
                      have u1D : decide ((u : Int) < 48) = true := decide_eq_true u1
                      have HB : Hid (Kp.pOk (bs s) = false) := Lib.hid (Pt_bad HPT.out (.inr (.inr (digs_bad hjk hub (by unfold Kp.dig; rw [hu]; simp; omega)))))
                      go_wp2_with fail
                      go_ret3
                      exact ⟨.inr ⟨HB.out, rfl⟩, bel⟩
                    · have u1 : ¬ (u : Int) < 48 := by omega
                      have u1D : decide ((u : Int) < 48) = false := decide_eq_false u1
                      by_cases hu2 : 57 < u
                      · have u2 : (57 : Int) < (u : Int) := by omega
                        have u2D : decide ((57 : Int) < (u : Int)) = true := decide_eq_true u2
                        have HB : Hid (Kp.pOk (bs s) = false) := Lib.hid (Pt_bad HPT.out (.inr (.inr (digs_bad hjk hub (by unfold Kp.dig; rw [hu]; simp; omega)))))
                        go_wp2_with fail
                        go_ret3
                        exact ⟨.inr ⟨HB.out, rfl⟩, bel⟩
                      · have u2 : ¬ (57 : Int) < (u : Int) := by omega
                        have u2D : decide ((57 : Int) < (u : Int)) = false := decide_eq_false u2
                        obtain ⟨d, hd⟩ : ∃ d, u = d + 48 := ⟨u - 48, by omega⟩
                        subst hd
                        obtain ⟨Q, hQ⟩ : ∃ Q : Nat, Q = 10 * v + d := ⟨_, rfl⟩
                        obtain ⟨M, hM⟩ : ∃ M : Nat, M = 10 * v := ⟨_, rfl⟩
                        have HV2 : Hid ((if 100 < Q then 101 else Q) = Kp.cap (Kp.valN (((bs s).take (k + 1)).drop j)) ∧ (((bs s).take (k + 1)).drop j).all Kp.dig = true) := Lib.hid (by
                          obtain ⟨a1, a2⟩ := HV.out
                          rw [mid_snoc hjk hub, Kp.val_snoc, hu, List.all_append, a2, show d + 48 - 48 = d by omega, Kp.cap_step, ← a1, hQ]
                          refine ⟨rfl, ?_⟩
                          have : Kp.dig s[k] = true := by unfold Kp.dig; rw [hu]; simp; omega
                          simp [this])
                        have w1 : IntKind.i64.wrap (10 * (v : Int)) = (M : Int) := by rw [IntWalk.i64_in _ (by omega), hM]; omega
                        have w2 : IntKind.u8.wrap (((d + 48 : Nat) : Int) - 48) = (d : Int) := by rw [IntWalk.u8_in _ (by omega)]; omega
                        have w2b : IntKind.u8.wrap ((d : Int) + 48 - 48) = (d : Int) := by rw [IntWalk.u8_in _ (by omega)]; omega
                        have w2c : IntKind.u8.wrap (d : Int) = (d : Int) := IntWalk.u8_in _ (by omega)
                        have w3 : IntKind.i64.wrap (d : Int) = (d : Int) := IntWalk.i64_in _ (by omega)
                        have w4 : IntKind.i64.wrap ((M : Int) + (d : Int)) = (Q : Int) := by rw [IntWalk.i64_in _ (by omega)]; omega
                        have hKB := Lib.hid (show j ≤ k + 1 ∧ k + 1 ≤ s.size by omega)
                        by_cases hbig : 100 < Q
                        · have r1 : (100 : Int) < (Q : Int) := by omega
                          have r1D : decide ((100 : Int) < (Q : Int)) = true := decide_eq_true r1
                          have r1N : decide (100 < Q) = true := decide_eq_true hbig
                          rw [if_pos hbig] at HV2
                          clear hQ hM hub hu
                          go_wp2_with fail
                          go_roundw
                          case rel => exact ⟨k + 1, 101, hKB.out.1, hKB.out.2, by first | go_num | rfl, rfl, by decide, HV2, bel⟩
                          case measure => (have := hKB.out; first | (simp [intOf]; omega) | (simp [intOf, hwk2]; omega))
                        · have r1 : ¬ (100 : Int) < (Q : Int) := by omega
                          have r1D : decide ((100 : Int) < (Q : Int)) = false := decide_eq_false r1
                          have r1N : decide (100 < Q) = false := decide_eq_false hbig
                          rw [if_neg hbig] at HV2
                          have HQB := Lib.hid (show Q ≤ 101 by omega)
                          clear hQ hM hub hu
                          go_wp2_with fail
                          go_roundw
                          case rel => exact ⟨k + 1, Q, hKB.out.1, hKB.out.2, by first | go_num | rfl, rfl, HQB.out, HV2, bel⟩
                          case measure => (have := hKB.out; first | (simp [intOf]; omega) | (simp [intOf, hwk2]; omega))
                  · obtain rfl : k = s.size := by omega
                    have hkI : ¬ (s.size : Int) < (s.size : Int) := by omega
                    have HFIN : Hid (Kp.pOk (bs s) = true ∧ Kp.word (bs s) = (bs s).take i ∧ v = Kp.cap (Kp.valN (Kp.num (bs s)))) := Lib.hid (by
                      obtain ⟨a1, a2⟩ := HV.out
                      rw [← HLE.out, List.take_length] at a1 a2
                      have hok : Kp.pOk (bs s) = true := by rw [HPT.out.ok, HG8.out a2, decide_eq_true HOK.out.1, decide_eq_true HOK.out.2]; rfl
                      have := HPT.out.word hok
                      rw [this.1, this.2]
                      exact ⟨hok, rfl, a1⟩)
                    go_wp2_with fail
                    go_ret3
                    exact ⟨.inl ⟨HFIN.out.1, by rw [HFIN.out.2.1, ← HFIN.out.2.2, ← ext_to]; rfl⟩, bel⟩

set_option maxRecDepth 100000 in
set_option maxHeartbeats 4000000 in
theorem rpart_GE (s : ByteArray) (hs : s.size ≤ 100000) (A B : Nat) (hP : Kp.Pt (bs s) A B) (hA : ∃ h : A < s.size, 122 < s[A].toNat) (hB : B = s.size) (w : World) : Calls Tryz.prog 29 #[.string s] w fun r w' => RpP (bs s) r ∧ Below w.heap.size w w' := by
  have HPT := Lib.hid hP
  have HLE := Lib.hid (bs_length s)
  have HS := Lib.hid hs
  have hl1 := hP.le1
  have hl2 : B ≤ s.size := by have := hP.le2; rwa [bs_length] at this
  have HGET : Hid (∀ i (h : i < s.size), (bs s)[i]? = some s[i]) := Lib.hid (fun i h => at_byteK h)
  obtain ⟨hAlt, hAx⟩ := hA
  have HBe := Lib.hid hB
  clear hB
  clear hs hP
  go_enter Tryz.func29, Tryz.ntmps29
  go_wp2_with fail
  go_loopw [5] (fun iv wr => ∃ i : Nat, i ≤ A ∧ iv = .int .i64 (i : Int) ∧ Below w.heap.size w wr) (fun iv _ => A - (intOf iv).toNat)
  case atStart => exact ⟨0, Nat.zero_le _, rfl, Below.refl _ _⟩
  case round =>
    obtain ⟨i, hi, rfl, bel⟩ := hrel
    by_cases hlt : i < A
    · have hls : i < s.size := by omega
      have hlsI : (i : Int) < (s.size : Int) := by omega
      have hlsD : decide ((i : Int) < (s.size : Int)) = true := decide_eq_true hlsI
      obtain ⟨x, hx⟩ : ∃ x : Nat, s[i].toNat = x := ⟨_, rfl⟩
      have hix := index_run3 (x := (x : Int)) hls (by rw [hx])
      have hlow : 97 ≤ x ∧ x ≤ 122 := by have h := HPT.out.lo i _ hlt (HGET.out i hls); unfold Kp.low at h; rw [hx, Bool.and_eq_true] at h; exact ⟨of_decide_eq_true h.1, of_decide_eq_true h.2⟩
      have g1 : (97 : Int) ≤ (x : Int) := by omega
      have g1D : decide ((97 : Int) ≤ (x : Int)) = true := decide_eq_true g1
      have g2 : (x : Int) ≤ 122 := by omega
      have g2D : decide ((x : Int) ≤ 122) = true := decide_eq_true g2
      have hwk : IntKind.i64.wrap ((i : Int) + 1) = ((i + 1 : Nat) : Int) := (IntWalk.i64_in _ (by have := HS.out; omega)).trans (by omega)
      have HI := Lib.hid (show i + 1 ≤ A by omega)
      clear hAx
      clear hlow hx
      go_wp2_with fail
      go_roundw
      case rel => exact ⟨i + 1, HI.out, by first | go_num | rfl, bel⟩
      case measure => (have := HI.out; first | (simp [intOf]; omega) | (simp [intOf, hwk]; omega))
    · obtain rfl : i = A := by omega
      have q1I : (i : Int) < (s.size : Int) := by omega
      have q1D : decide ((i : Int) < (s.size : Int)) = true := decide_eq_true q1I
      obtain ⟨x, hx⟩ : ∃ x : Nat, s[i].toNat = x := ⟨_, rfl⟩
      have hix := index_run3 (x := (x : Int)) hAlt (by rw [hx])
      rw [hx] at hAx
      have q2I : (97 : Int) ≤ (x : Int) := by omega
      have q2D : decide ((97 : Int) ≤ (x : Int)) = true := decide_eq_true q2I
      have q3I : ¬ (x : Int) ≤ 122 := by omega
      have q3D : decide ((x : Int) ≤ 122) = false := decide_eq_false q3I
      clear hAx hx
      have hsl : (i : Int) ≤ (s.size : Int) := by omega
      go_wp2_with fail
      go_loopw [7] (fun jv wr => ∃ j : Nat, i ≤ j ∧ j ≤ B ∧ jv = .int .i64 (j : Int) ∧ Below w.heap.size w wr) (fun jv _ => B - (intOf jv).toNat)
      case atStart => exact ⟨i, Nat.le_refl _, hl1, rfl, bel⟩
      case round =>
        clear bel
        obtain ⟨j, hij, hj, rfl, bel⟩ := hrel
        by_cases hjlt : j < B
        · have hls : j < s.size := by omega
          have hlsI : (j : Int) < (s.size : Int) := by omega
          have hlsD : decide ((j : Int) < (s.size : Int)) = true := decide_eq_true hlsI
          obtain ⟨y, hy⟩ : ∃ y : Nat, s[j].toNat = y := ⟨_, rfl⟩
          have hjx := index_run3 (x := (y : Int)) hls (by rw [hy])
          have h32 : y = 32 := by rw [← hy, HPT.out.sp_ j _ hij hjlt (HGET.out j hls)]; rfl
          have s1 : ((y : Int) == 32) = true := by rw [h32]; rfl
          have hwk : IntKind.i64.wrap ((j : Int) + 1) = ((j + 1 : Nat) : Int) := (IntWalk.i64_in _ (by have := HS.out; omega)).trans (by omega)
          have HI := Lib.hid (show i ≤ j + 1 ∧ j + 1 ≤ B by omega)
          clear h32 hy
          go_wp2_with fail
          go_roundw
          case rel => exact ⟨j + 1, HI.out.1, HI.out.2, by first | go_num | rfl, bel⟩
          case measure => (have := HI.out; first | (simp [intOf]; omega) | (simp [intOf, hwk]; omega))
        · obtain rfl : j = B := by omega
          have s1I : ¬ (j : Int) < (s.size : Int) := by have := HBe.out; omega
          have s1D : decide ((j : Int) < (s.size : Int)) = false := decide_eq_false s1I
          by_cases h0 : i = 0
          · have t1 : ((i : Int) == 0) = true := by rw [h0]; rfl
            have HB : Hid (Kp.pOk (bs s) = false) := Lib.hid (Pt_bad HPT.out (.inl h0))
            clear h0
            go_wp2_with fail
            go_ret3
            exact ⟨.inr ⟨HB.out, rfl⟩, bel⟩
          · have t1 : ((i : Int) == 0) = false := by rw [beq_eq_false_iff_ne]; omega
            by_cases hAB : j = i
            · have t2 : ((j : Int) == (i : Int)) = true := by rw [hAB]; exact beq_self_eq_true _
              have HB : Hid (Kp.pOk (bs s) = false) := Lib.hid (Pt_bad HPT.out (.inr (.inl hAB.symm)))
              clear hAB
              go_wp2_with fail
              go_ret3
              exact ⟨.inr ⟨HB.out, rfl⟩, bel⟩
            · have t2 : ((j : Int) == (i : Int)) = false := by rw [beq_eq_false_iff_ne]; omega
              have t3 : ((j : Int) == (s.size : Int)) = true := by rw [beq_iff_eq]; have := HBe.out; omega
              have HB : Hid (Kp.pOk (bs s) = false) := Lib.hid (Pt_bad HPT.out (.inr (.inr (num_empty (by rw [HLE.out]; exact HBe.out)))))
              go_wp2_with fail
              go_ret3
              exact ⟨.inr ⟨HB.out, rfl⟩, bel⟩

set_option maxRecDepth 100000 in
set_option maxHeartbeats 4000000 in
theorem rpart_GN (s : ByteArray) (hs : s.size ≤ 100000) (A B : Nat) (hP : Kp.Pt (bs s) A B) (hA : ∃ h : A < s.size, 122 < s[A].toNat) (hB : ∃ h : B < s.size, s[B].toNat ≠ 32) (w : World) : Calls Tryz.prog 29 #[.string s] w fun r w' => RpP (bs s) r ∧ Below w.heap.size w w' := by
  have HPT := Lib.hid hP
  have HLE := Lib.hid (bs_length s)
  have HS := Lib.hid hs
  have hl1 := hP.le1
  have hl2 : B ≤ s.size := by have := hP.le2; rwa [bs_length] at this
  have HGET : Hid (∀ i (h : i < s.size), (bs s)[i]? = some s[i]) := Lib.hid (fun i h => at_byteK h)
  obtain ⟨hAlt, hAx⟩ := hA
  obtain ⟨hBlt, hBx⟩ := hB
  clear hs hP
  go_enter Tryz.func29, Tryz.ntmps29
  go_wp2_with fail
  go_loopw [5] (fun iv wr => ∃ i : Nat, i ≤ A ∧ iv = .int .i64 (i : Int) ∧ Below w.heap.size w wr) (fun iv _ => A - (intOf iv).toNat)
  case atStart => exact ⟨0, Nat.zero_le _, rfl, Below.refl _ _⟩
  case round =>
    obtain ⟨i, hi, rfl, bel⟩ := hrel
    by_cases hlt : i < A
    · have hls : i < s.size := by omega
      have hlsI : (i : Int) < (s.size : Int) := by omega
      have hlsD : decide ((i : Int) < (s.size : Int)) = true := decide_eq_true hlsI
      obtain ⟨x, hx⟩ : ∃ x : Nat, s[i].toNat = x := ⟨_, rfl⟩
      have hix := index_run3 (x := (x : Int)) hls (by rw [hx])
      have hlow : 97 ≤ x ∧ x ≤ 122 := by have h := HPT.out.lo i _ hlt (HGET.out i hls); unfold Kp.low at h; rw [hx, Bool.and_eq_true] at h; exact ⟨of_decide_eq_true h.1, of_decide_eq_true h.2⟩
      have g1 : (97 : Int) ≤ (x : Int) := by omega
      have g1D : decide ((97 : Int) ≤ (x : Int)) = true := decide_eq_true g1
      have g2 : (x : Int) ≤ 122 := by omega
      have g2D : decide ((x : Int) ≤ 122) = true := decide_eq_true g2
      have hwk : IntKind.i64.wrap ((i : Int) + 1) = ((i + 1 : Nat) : Int) := (IntWalk.i64_in _ (by have := HS.out; omega)).trans (by omega)
      have HI := Lib.hid (show i + 1 ≤ A by omega)
      clear hAx
      clear hBx
      clear hlow hx
      go_wp2_with fail
      go_roundw
      case rel => exact ⟨i + 1, HI.out, by first | go_num | rfl, bel⟩
      case measure => (have := HI.out; first | (simp [intOf]; omega) | (simp [intOf, hwk]; omega))
    · obtain rfl : i = A := by omega
      have q1I : (i : Int) < (s.size : Int) := by omega
      have q1D : decide ((i : Int) < (s.size : Int)) = true := decide_eq_true q1I
      obtain ⟨x, hx⟩ : ∃ x : Nat, s[i].toNat = x := ⟨_, rfl⟩
      have hix := index_run3 (x := (x : Int)) hAlt (by rw [hx])
      rw [hx] at hAx
      have q2I : (97 : Int) ≤ (x : Int) := by omega
      have q2D : decide ((97 : Int) ≤ (x : Int)) = true := decide_eq_true q2I
      have q3I : ¬ (x : Int) ≤ 122 := by omega
      have q3D : decide ((x : Int) ≤ 122) = false := decide_eq_false q3I
      clear hAx hx
      have hsl : (i : Int) ≤ (s.size : Int) := by omega
      go_wp2_with fail
      go_loopw [7] (fun jv wr => ∃ j : Nat, i ≤ j ∧ j ≤ B ∧ jv = .int .i64 (j : Int) ∧ Below w.heap.size w wr) (fun jv _ => B - (intOf jv).toNat)
      case atStart => exact ⟨i, Nat.le_refl _, hl1, rfl, bel⟩
      case round =>
        clear bel
        obtain ⟨j, hij, hj, rfl, bel⟩ := hrel
        by_cases hjlt : j < B
        · have hls : j < s.size := by omega
          have hlsI : (j : Int) < (s.size : Int) := by omega
          have hlsD : decide ((j : Int) < (s.size : Int)) = true := decide_eq_true hlsI
          obtain ⟨y, hy⟩ : ∃ y : Nat, s[j].toNat = y := ⟨_, rfl⟩
          have hjx := index_run3 (x := (y : Int)) hls (by rw [hy])
          have h32 : y = 32 := by rw [← hy, HPT.out.sp_ j _ hij hjlt (HGET.out j hls)]; rfl
          have s1 : ((y : Int) == 32) = true := by rw [h32]; rfl
          have hwk : IntKind.i64.wrap ((j : Int) + 1) = ((j + 1 : Nat) : Int) := (IntWalk.i64_in _ (by have := HS.out; omega)).trans (by omega)
          have HI := Lib.hid (show i ≤ j + 1 ∧ j + 1 ≤ B by omega)
          clear hBx
          clear h32 hy
          go_wp2_with fail
          go_roundw
          case rel => exact ⟨j + 1, HI.out.1, HI.out.2, by first | go_num | rfl, bel⟩
          case measure => (have := HI.out; first | (simp [intOf]; omega) | (simp [intOf, hwk]; omega))
        · obtain rfl : j = B := by omega
          have s1I : (j : Int) < (s.size : Int) := by omega
          have s1D : decide ((j : Int) < (s.size : Int)) = true := decide_eq_true s1I
          obtain ⟨y, hy⟩ : ∃ y : Nat, s[j].toNat = y := ⟨_, rfl⟩
          have hjx := index_run3 (x := (y : Int)) hBlt (by rw [hy])
          rw [hy] at hBx
          have s2 : ((y : Int) == 32) = false := by rw [beq_eq_false_iff_ne]; omega
          by_cases h0 : i = 0
          · have t1 : ((i : Int) == 0) = true := by rw [h0]; rfl
            have HB : Hid (Kp.pOk (bs s) = false) := Lib.hid (Pt_bad HPT.out (.inl h0))
            clear h0
            go_wp2_with fail
            go_ret3
            exact ⟨.inr ⟨HB.out, rfl⟩, bel⟩
          · have t1 : ((i : Int) == 0) = false := by rw [beq_eq_false_iff_ne]; omega
            by_cases hAB : j = i
            · have t2 : ((j : Int) == (i : Int)) = true := by rw [hAB]; exact beq_self_eq_true _
              have HB : Hid (Kp.pOk (bs s) = false) := Lib.hid (Pt_bad HPT.out (.inr (.inl hAB.symm)))
              clear hAB
              go_wp2_with fail
              go_ret3
              exact ⟨.inr ⟨HB.out, rfl⟩, bel⟩
            · have t2 : ((j : Int) == (i : Int)) = false := by rw [beq_eq_false_iff_ne]; omega
              have t3 : ((j : Int) == (s.size : Int)) = false := by rw [beq_eq_false_iff_ne]; omega
              have hwk : IntKind.i64.wrap ((j : Int) + 1) = ((j + 1 : Nat) : Int) := (IntWalk.i64_in _ (by have := HS.out; omega)).trans (by omega)
              have hyb := HGET.out j hBlt
              by_cases h48 : y = 48
              · have t4 : ((y : Int) == 48) = true := by rw [h48]; rfl
                have hyc : s[j] = 48 := UInt8.toNat_inj.1 (show s[j].toNat = (48 : UInt8).toNat from hy.trans h48)
                by_cases hone : j + 1 < s.size
                · have t5 : (j : Int) + 1 < (s.size : Int) := by omega
                  have t5D : decide ((j : Int) + 1 < (s.size : Int)) = true := decide_eq_true t5
                  have HB : Hid (Kp.pOk (bs s) = false) := Lib.hid (Pt_bad HPT.out (.inr (.inr (num_long hyb hyc (by rw [HLE.out]; exact hone)))))
                  go_wp2_with fail
                  go_ret3
                  exact ⟨.inr ⟨HB.out, rfl⟩, bel⟩
                · have t5 : ¬ (j : Int) + 1 < (s.size : Int) := by omega
                  have t5D : decide ((j : Int) + 1 < (s.size : Int)) = false := decide_eq_false t5
                  have HG8 : Hid (∀ h : ((bs s).drop j).all Kp.dig = true, Kp.isNum ((bs s).drop j) = true) := Lib.hid (num_good (by rw [HLE.out]; exact hBlt) hyb (.inr (by rw [HLE.out]; omega)))
                  clear hyc hone h48
                  clear hBx hyb hy
                  have HOK : Hid (i ≠ 0 ∧ i ≠ j) := Lib.hid ⟨h0, fun e => hAB e.symm⟩
                  have HJS := Lib.hid hBlt
                  clear h0 hAB
                  go_wp2_with fail
                  go_loopw [8, 9] (fun nv kv wr => ∃ k v : Nat, j ≤ k ∧ k ≤ s.size ∧ kv = .int .i64 (k : Int) ∧ nv = .int .i64 (v : Int) ∧ v ≤ 101 ∧ Hid (v = Kp.cap (Kp.valN (((bs s).take k).drop j)) ∧ (((bs s).take k).drop j).all Kp.dig = true) ∧ Below w.heap.size w wr) (fun _ kv _ => s.size - (intOf kv).toNat)
                  case atStart => exact ⟨j, 0, Nat.le_refl _, hl2, rfl, rfl, by decide, Lib.hid (by have e : ((bs s).take j).drop j = [] := List.drop_of_length_le (by rw [List.length_take]; omega); rw [e]; exact ⟨rfl, rfl⟩), bel⟩
                  case round =>
                    clear bel
                    obtain ⟨k, v, hjk, hk, rfl, rfl, hv, HV, bel⟩ := hrel
                    by_cases hkl : k < s.size
                    · have hkI : (k : Int) < (s.size : Int) := by omega
                      have hkD : decide ((k : Int) < (s.size : Int)) = true := decide_eq_true hkI
                      obtain ⟨u, hu⟩ : ∃ u : Nat, s[k].toNat = u := ⟨_, rfl⟩
                      have hkx := index_run3 (x := (u : Int)) hkl (by rw [hu])
                      have hub := HGET.out k hkl
                      have hwk2 : IntKind.i64.wrap ((k : Int) + 1) = ((k + 1 : Nat) : Int) := (IntWalk.i64_in _ (by have := HS.out; omega)).trans (by omega)
                      by_cases hu1 : u < 48
                      · have u1 : (u : Int) < 48 := by omega
                        have u1D : decide ((u : Int) < 48) = true := decide_eq_true u1
                        have HB : Hid (Kp.pOk (bs s) = false) := Lib.hid (Pt_bad HPT.out (.inr (.inr (digs_bad hjk hub (by unfold Kp.dig; rw [hu]; simp; omega)))))
                        go_wp2_with fail
                        go_ret3
                        exact ⟨.inr ⟨HB.out, rfl⟩, bel⟩
                      · have u1 : ¬ (u : Int) < 48 := by omega
                        have u1D : decide ((u : Int) < 48) = false := decide_eq_false u1
                        by_cases hu2 : 57 < u
                        · have u2 : (57 : Int) < (u : Int) := by omega
                          have u2D : decide ((57 : Int) < (u : Int)) = true := decide_eq_true u2
                          have HB : Hid (Kp.pOk (bs s) = false) := Lib.hid (Pt_bad HPT.out (.inr (.inr (digs_bad hjk hub (by unfold Kp.dig; rw [hu]; simp; omega)))))
                          go_wp2_with fail
                          go_ret3
                          exact ⟨.inr ⟨HB.out, rfl⟩, bel⟩
                        · have u2 : ¬ (57 : Int) < (u : Int) := by omega
                          have u2D : decide ((57 : Int) < (u : Int)) = false := decide_eq_false u2
                          obtain ⟨d, hd⟩ : ∃ d, u = d + 48 := ⟨u - 48, by omega⟩
                          subst hd
                          obtain ⟨Q, hQ⟩ : ∃ Q : Nat, Q = 10 * v + d := ⟨_, rfl⟩
                          obtain ⟨M, hM⟩ : ∃ M : Nat, M = 10 * v := ⟨_, rfl⟩
                          have HV2 : Hid ((if 100 < Q then 101 else Q) = Kp.cap (Kp.valN (((bs s).take (k + 1)).drop j)) ∧ (((bs s).take (k + 1)).drop j).all Kp.dig = true) := Lib.hid (by
                            obtain ⟨a1, a2⟩ := HV.out
                            rw [mid_snoc hjk hub, Kp.val_snoc, hu, List.all_append, a2, show d + 48 - 48 = d by omega, Kp.cap_step, ← a1, hQ]
                            refine ⟨rfl, ?_⟩
                            have : Kp.dig s[k] = true := by unfold Kp.dig; rw [hu]; simp; omega
                            simp [this])
                          have w1 : IntKind.i64.wrap (10 * (v : Int)) = (M : Int) := by rw [IntWalk.i64_in _ (by omega), hM]; omega
                          have w2 : IntKind.u8.wrap (((d + 48 : Nat) : Int) - 48) = (d : Int) := by rw [IntWalk.u8_in _ (by omega)]; omega
                          have w2b : IntKind.u8.wrap ((d : Int) + 48 - 48) = (d : Int) := by rw [IntWalk.u8_in _ (by omega)]; omega
                          have w2c : IntKind.u8.wrap (d : Int) = (d : Int) := IntWalk.u8_in _ (by omega)
                          have w3 : IntKind.i64.wrap (d : Int) = (d : Int) := IntWalk.i64_in _ (by omega)
                          have w4 : IntKind.i64.wrap ((M : Int) + (d : Int)) = (Q : Int) := by rw [IntWalk.i64_in _ (by omega)]; omega
                          have hKB := Lib.hid (show j ≤ k + 1 ∧ k + 1 ≤ s.size by omega)
                          by_cases hbig : 100 < Q
                          · have r1 : (100 : Int) < (Q : Int) := by omega
                            have r1D : decide ((100 : Int) < (Q : Int)) = true := decide_eq_true r1
                            have r1N : decide (100 < Q) = true := decide_eq_true hbig
                            rw [if_pos hbig] at HV2
                            clear hQ hM hub hu
                            go_wp2_with fail
                            go_roundw
                            case rel => exact ⟨k + 1, 101, hKB.out.1, hKB.out.2, by first | go_num | rfl, rfl, by decide, HV2, bel⟩
                            case measure => (have := hKB.out; first | (simp [intOf]; omega) | (simp [intOf, hwk2]; omega))
                          · have r1 : ¬ (100 : Int) < (Q : Int) := by omega
                            have r1D : decide ((100 : Int) < (Q : Int)) = false := decide_eq_false r1
                            have r1N : decide (100 < Q) = false := decide_eq_false hbig
                            rw [if_neg hbig] at HV2
                            have HQB := Lib.hid (show Q ≤ 101 by omega)
                            clear hQ hM hub hu
                            go_wp2_with fail
                            go_roundw
                            case rel => exact ⟨k + 1, Q, hKB.out.1, hKB.out.2, by first | go_num | rfl, rfl, HQB.out, HV2, bel⟩
                            case measure => (have := hKB.out; first | (simp [intOf]; omega) | (simp [intOf, hwk2]; omega))
                    · obtain rfl : k = s.size := by omega
                      have hkI : ¬ (s.size : Int) < (s.size : Int) := by omega
                      have HFIN : Hid (Kp.pOk (bs s) = true ∧ Kp.word (bs s) = (bs s).take i ∧ v = Kp.cap (Kp.valN (Kp.num (bs s)))) := Lib.hid (by
                        obtain ⟨a1, a2⟩ := HV.out
                        rw [← HLE.out, List.take_length] at a1 a2
                        have hok : Kp.pOk (bs s) = true := by rw [HPT.out.ok, HG8.out a2, decide_eq_true HOK.out.1, decide_eq_true HOK.out.2]; rfl
                        have := HPT.out.word hok
                        rw [this.1, this.2]
                        exact ⟨hok, rfl, a1⟩)
                      go_wp2_with fail
                      go_ret3
                      exact ⟨.inl ⟨HFIN.out.1, by rw [HFIN.out.2.1, ← HFIN.out.2.2, ← ext_to]; rfl⟩, bel⟩
              · have t4 : ((y : Int) == 48) = false := by rw [beq_eq_false_iff_ne]; omega
                have HG8 : Hid (∀ h : ((bs s).drop j).all Kp.dig = true, Kp.isNum ((bs s).drop j) = true) := Lib.hid (num_good (by rw [HLE.out]; exact hBlt) hyb (.inl (fun e => h48 (by rw [← hy, e]; rfl))))
                clear h48
                clear hBx hyb hy
                have HOK : Hid (i ≠ 0 ∧ i ≠ j) := Lib.hid ⟨h0, fun e => hAB e.symm⟩
                have HJS := Lib.hid hBlt
                clear h0 hAB
                go_wp2_with fail
                go_loopw [8, 9] (fun nv kv wr => ∃ k v : Nat, j ≤ k ∧ k ≤ s.size ∧ kv = .int .i64 (k : Int) ∧ nv = .int .i64 (v : Int) ∧ v ≤ 101 ∧ Hid (v = Kp.cap (Kp.valN (((bs s).take k).drop j)) ∧ (((bs s).take k).drop j).all Kp.dig = true) ∧ Below w.heap.size w wr) (fun _ kv _ => s.size - (intOf kv).toNat)
                case atStart => exact ⟨j, 0, Nat.le_refl _, hl2, rfl, rfl, by decide, Lib.hid (by have e : ((bs s).take j).drop j = [] := List.drop_of_length_le (by rw [List.length_take]; omega); rw [e]; exact ⟨rfl, rfl⟩), bel⟩
                case round =>
                  clear bel
                  obtain ⟨k, v, hjk, hk, rfl, rfl, hv, HV, bel⟩ := hrel
                  by_cases hkl : k < s.size
                  · have hkI : (k : Int) < (s.size : Int) := by omega
                    have hkD : decide ((k : Int) < (s.size : Int)) = true := decide_eq_true hkI
                    obtain ⟨u, hu⟩ : ∃ u : Nat, s[k].toNat = u := ⟨_, rfl⟩
                    have hkx := index_run3 (x := (u : Int)) hkl (by rw [hu])
                    have hub := HGET.out k hkl
                    have hwk2 : IntKind.i64.wrap ((k : Int) + 1) = ((k + 1 : Nat) : Int) := (IntWalk.i64_in _ (by have := HS.out; omega)).trans (by omega)
                    by_cases hu1 : u < 48
                    · have u1 : (u : Int) < 48 := by omega
                      have u1D : decide ((u : Int) < 48) = true := decide_eq_true u1
                      have HB : Hid (Kp.pOk (bs s) = false) := Lib.hid (Pt_bad HPT.out (.inr (.inr (digs_bad hjk hub (by unfold Kp.dig; rw [hu]; simp; omega)))))
                      go_wp2_with fail
                      go_ret3
                      exact ⟨.inr ⟨HB.out, rfl⟩, bel⟩
                    · have u1 : ¬ (u : Int) < 48 := by omega
                      have u1D : decide ((u : Int) < 48) = false := decide_eq_false u1
                      by_cases hu2 : 57 < u
                      · have u2 : (57 : Int) < (u : Int) := by omega
                        have u2D : decide ((57 : Int) < (u : Int)) = true := decide_eq_true u2
                        have HB : Hid (Kp.pOk (bs s) = false) := Lib.hid (Pt_bad HPT.out (.inr (.inr (digs_bad hjk hub (by unfold Kp.dig; rw [hu]; simp; omega)))))
                        go_wp2_with fail
                        go_ret3
                        exact ⟨.inr ⟨HB.out, rfl⟩, bel⟩
                      · have u2 : ¬ (57 : Int) < (u : Int) := by omega
                        have u2D : decide ((57 : Int) < (u : Int)) = false := decide_eq_false u2
                        obtain ⟨d, hd⟩ : ∃ d, u = d + 48 := ⟨u - 48, by omega⟩
                        subst hd
                        obtain ⟨Q, hQ⟩ : ∃ Q : Nat, Q = 10 * v + d := ⟨_, rfl⟩
                        obtain ⟨M, hM⟩ : ∃ M : Nat, M = 10 * v := ⟨_, rfl⟩
                        have HV2 : Hid ((if 100 < Q then 101 else Q) = Kp.cap (Kp.valN (((bs s).take (k + 1)).drop j)) ∧ (((bs s).take (k + 1)).drop j).all Kp.dig = true) := Lib.hid (by
                          obtain ⟨a1, a2⟩ := HV.out
                          rw [mid_snoc hjk hub, Kp.val_snoc, hu, List.all_append, a2, show d + 48 - 48 = d by omega, Kp.cap_step, ← a1, hQ]
                          refine ⟨rfl, ?_⟩
                          have : Kp.dig s[k] = true := by unfold Kp.dig; rw [hu]; simp; omega
                          simp [this])
                        have w1 : IntKind.i64.wrap (10 * (v : Int)) = (M : Int) := by rw [IntWalk.i64_in _ (by omega), hM]; omega
                        have w2 : IntKind.u8.wrap (((d + 48 : Nat) : Int) - 48) = (d : Int) := by rw [IntWalk.u8_in _ (by omega)]; omega
                        have w2b : IntKind.u8.wrap ((d : Int) + 48 - 48) = (d : Int) := by rw [IntWalk.u8_in _ (by omega)]; omega
                        have w2c : IntKind.u8.wrap (d : Int) = (d : Int) := IntWalk.u8_in _ (by omega)
                        have w3 : IntKind.i64.wrap (d : Int) = (d : Int) := IntWalk.i64_in _ (by omega)
                        have w4 : IntKind.i64.wrap ((M : Int) + (d : Int)) = (Q : Int) := by rw [IntWalk.i64_in _ (by omega)]; omega
                        have hKB := Lib.hid (show j ≤ k + 1 ∧ k + 1 ≤ s.size by omega)
                        by_cases hbig : 100 < Q
                        · have r1 : (100 : Int) < (Q : Int) := by omega
                          have r1D : decide ((100 : Int) < (Q : Int)) = true := decide_eq_true r1
                          have r1N : decide (100 < Q) = true := decide_eq_true hbig
                          rw [if_pos hbig] at HV2
                          clear hQ hM hub hu
                          go_wp2_with fail
                          go_roundw
                          case rel => exact ⟨k + 1, 101, hKB.out.1, hKB.out.2, by first | go_num | rfl, rfl, by decide, HV2, bel⟩
                          case measure => (have := hKB.out; first | (simp [intOf]; omega) | (simp [intOf, hwk2]; omega))
                        · have r1 : ¬ (100 : Int) < (Q : Int) := by omega
                          have r1D : decide ((100 : Int) < (Q : Int)) = false := decide_eq_false r1
                          have r1N : decide (100 < Q) = false := decide_eq_false hbig
                          rw [if_neg hbig] at HV2
                          have HQB := Lib.hid (show Q ≤ 101 by omega)
                          clear hQ hM hub hu
                          go_wp2_with fail
                          go_roundw
                          case rel => exact ⟨k + 1, Q, hKB.out.1, hKB.out.2, by first | go_num | rfl, rfl, HQB.out, HV2, bel⟩
                          case measure => (have := hKB.out; first | (simp [intOf]; omega) | (simp [intOf, hwk2]; omega))
                  · obtain rfl : k = s.size := by omega
                    have hkI : ¬ (s.size : Int) < (s.size : Int) := by omega
                    have HFIN : Hid (Kp.pOk (bs s) = true ∧ Kp.word (bs s) = (bs s).take i ∧ v = Kp.cap (Kp.valN (Kp.num (bs s)))) := Lib.hid (by
                      obtain ⟨a1, a2⟩ := HV.out
                      rw [← HLE.out, List.take_length] at a1 a2
                      have hok : Kp.pOk (bs s) = true := by rw [HPT.out.ok, HG8.out a2, decide_eq_true HOK.out.1, decide_eq_true HOK.out.2]; rfl
                      have := HPT.out.word hok
                      rw [this.1, this.2]
                      exact ⟨hok, rfl, a1⟩)
                    go_wp2_with fail
                    go_ret3
                    exact ⟨.inl ⟨HFIN.out.1, by rw [HFIN.out.2.1, ← HFIN.out.2.2, ← ext_to]; rfl⟩, bel⟩

theorem rpart_any (s : ByteArray) (hs : s.size ≤ 100000) (w : World) : Calls Tryz.prog 29 #[.string s] w fun r w' => RpP (bs s) r ∧ Below w.heap.size w w' := by
  obtain ⟨A, B, hP⟩ := Kp.Pt.of (bs s)
  have hl1 := hP.le1
  have hl2 := hP.le2
  rw [bs_length] at hl2
  have hB : B = s.size ∨ ∃ h : B < s.size, s[B].toNat ≠ 32 := by
    rcases Nat.lt_or_ge B s.size with h | h
    · exact .inr ⟨h, fun e => hP.ns _ (at_byteK h) (UInt8.toNat_inj.1 (show s[B].toNat = (32 : UInt8).toNat from e))⟩
    · exact .inl (by omega)
  have hA : A = s.size ∨ (∃ h : A < s.size, s[A].toNat < 97) ∨ ∃ h : A < s.size, 122 < s[A].toNat := by
    rcases Nat.lt_or_ge A s.size with h | h
    · have hn := hP.nl _ (at_byteK h)
      unfold Kp.low at hn
      rcases Nat.lt_or_ge s[A].toNat 97 with g | g
      · exact .inr (.inl ⟨h, g⟩)
      · refine .inr (.inr ⟨h, ?_⟩)
        rw [decide_eq_true g, Bool.true_and] at hn
        have := of_decide_eq_false hn
        omega
    · exact .inl (by omega)
  rcases hA with h | h | h
  · exact rpart_EE s hs A B hP h (by omega) w
  · rcases hB with g | g
    · exact rpart_LE s hs A B hP h g w
    · exact rpart_LN s hs A B hP h g w
  · rcases hB with g | g
    · exact rpart_GE s hs A B hP h g w
    · exact rpart_GN s hs A B hP h g w
end Go.Proofs.YtmemkcaikajnnaaGreatDoor
