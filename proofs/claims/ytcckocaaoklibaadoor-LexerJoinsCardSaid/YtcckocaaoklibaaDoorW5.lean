/- Walks: checkInteger and check of package lexer. -/
import Derived.Test.YtcckocaaoklibaaDoorShelf
import Derived.Test.YtcckocaaoklibaaDoorW4
import Derived.Lib.SmallJoins
namespace Go.Proofs.YtcckocaaoklibaaDoor
open Go.RowKit
set_option linter.unusedVariables false

namespace Kx
def valF (acc : Nat) (l : List UInt8) : Nat := l.foldl (fun n c => n * 10 + (c.toNat - 48)) acc
theorem valF_cons (acc : Nat) (c : UInt8) (l : List UInt8) : valF acc (c :: l) = valF (acc * 10 + (c.toNat - 48)) l := by unfold valF; rw [List.foldl_cons]
theorem valF_mono (l : List UInt8) : ∀ acc, acc ≤ valF acc l := by
  induction l with
  | nil => intro acc; exact Nat.le_refl _
  | cons c l ih => intro acc; rw [valF_cons]; have := ih (acc * 10 + (c.toNat - 48)); omega
theorem parse_dig (l : List UInt8) : ∀ acc, l.all digC = true → Lib.parseUint10 acc l = .ok (valF acc l) ∨ (Lib.parseUint10 acc l = .range ∧ 1048576 < valF acc l) := by
  induction l with
  | nil => intro acc _; exact .inl rfl
  | cons c l ih =>
    intro acc h
    rw [List.all_cons, Bool.and_eq_true] at h
    have hc := h.1
    unfold digC at hc
    simp only [Bool.and_eq_true, decide_eq_true_eq] at hc
    unfold Lib.parseUint10
    rw [if_pos hc, valF_cons]
    have hm := valF_mono l (acc * 10 + (c.toNat - 48))
    by_cases h1 : 1844674407370955162 ≤ acc
    · rw [if_pos h1]; exact .inr ⟨rfl, by omega⟩
    · rw [if_neg h1]
      by_cases h2 : 18446744073709551616 ≤ acc * 10 + (c.toNat - 48)
      · rw [if_pos h2]; exact .inr ⟨rfl, by omega⟩
      · rw [if_neg h2]; exact ih _ h.2
theorem atoi_dig {l : List UInt8} (h0 : l ≠ []) (h : l.all digC = true) : Lib.atoiAll l = .ok (valN l : Int) ∨ (Lib.atoiAll l = .range ∧ 1048576 < valN l) := by
  cases l with
  | nil => exact absurd rfl h0
  | cons c r =>
    have hc := h
    rw [List.all_cons, Bool.and_eq_true] at hc
    have hc := hc.1
    unfold digC at hc
    simp only [Bool.and_eq_true, decide_eq_true_eq] at hc
    have hp := parse_dig (c :: r) 0 h
    have e : Lib.parseMag (if c.toNat = 43 ∨ c.toNat = 45 then r else c :: r) = Lib.parseUint10 0 (c :: r) := by
      rw [if_neg (by omega)]; unfold Lib.parseMag; rw [if_neg (by simp)]
    unfold Lib.atoiAll
    simp only [e]
    have hv : valN (c :: r) = valF 0 (c :: r) := rfl
    rw [hv]
    rcases hp with hp | ⟨hp, hb⟩
    · rw [hp]
      dsimp only
      by_cases hbig : 9223372036854775808 ≤ valF 0 (c :: r)
      · rw [if_pos ⟨by omega, hbig⟩]; exact .inr ⟨rfl, by omega⟩
      · rw [if_neg (fun q => hbig q.2), if_neg (fun q => by omega), if_neg (by omega)]; exact .inl rfl
    · rw [hp]; exact .inr ⟨rfl, hb⟩
theorem num_lead {w : List UInt8} (h1 : 1 < w.length) (h2 : w.head? = some 48) : numC w = 6 := by
  unfold numC; rw [decide_eq_true h1, h2]; rfl
theorem num_bad {w : List UInt8} (h : w.all digC = false) : numC w = 6 := by
  unfold numC; rw [h]; split <;> rfl
theorem num_ok {w : List UInt8} (h1 : ¬ (1 < w.length ∧ w.head? = some 48)) (h : w.all digC = true) : numC w = if 1048576 < valN w then 3 else 0 := by
  unfold numC
  rw [h, if_neg, if_pos rfl]
  simp only [Bool.and_eq_true, decide_eq_true_eq, beq_iff_eq]
  exact h1
end Kx

/-- what the walks read of the library's variables -/
structure LexT (w : World) : Prop where
  sp : SpT w
  er : ∃ te pe, w.cell? ⟨5, 0, none⟩ = some (.iface te pe)
  lt : 5 < w.heap.size
theorem LexT.below {w w' : World} (h : LexT w) (hb : Below w.heap.size w w') : LexT w' :=
  ⟨h.sp.below hb, by obtain ⟨te, pe, h1⟩ := h.er; exact ⟨te, pe, (hb.cell (p := ⟨5, 0, none⟩) h.lt).trans h1⟩, Nat.lt_of_lt_of_le h.lt hb.size⟩

/-- what Atoi hands back at digits -/
def AtoiRes (l : List UInt8) (w : World) (e : Ending) (w' : World) : Prop :=
  Below w.heap.size w w' ∧ ((e = .returned (.tuple #[.int .i64 (Kx.valN l : Int), .nilIface])) ∨ (1048576 < Kx.valN l ∧ ∃ v N, e = .returned (.tuple #[.int .i64 v, .iface 107 (.pointer (some ⟨N, 0, none⟩))])))
theorem atoi_any (s : ByteArray) (hs : s.size ≤ 1000000) (h0 : bs s ≠ []) (hd : (bs s).all Kx.digC = true) (w : World) (hT : LexT w) :
    Calls Tryd.prog 44 #[.string s] w (AtoiRes (bs s) w) := by
  rcases Kx.atoi_dig h0 hd with h | ⟨h, hb⟩
  · refine (Tryd.strconv_Atoi_ok s (by omega) _ h w).mono ?_
    rintro e w' ⟨rfl, rfl | ⟨t, rfl⟩⟩
    · exact ⟨Below.refl _ _, .inl rfl⟩
    · refine ⟨?_, .inl rfl⟩
      exact Joins.below_bytesWorld _ _ _ _ (Nat.le_refl _)
  · obtain ⟨te, pe, her⟩ := hT.er
    refine (Tryd.strconv_Atoi_range s (by omega) h (.iface te pe) w her (.inr ⟨te, pe, rfl⟩)).mono ?_
    rintro e w' ⟨N, rfl, _, _, hbel⟩
    exact ⟨hbel, .inr ⟨hb, _, N, rfl⟩⟩

set_option maxRecDepth 100000 in
set_option maxHeartbeats 4000000 in
theorem checkInt_any (s : ByteArray) (hs : s.size ≤ 1000000) (h0 : 0 < s.size) (w : World) (hT : LexT w) :
    Calls Tryd.prog 75 #[.string s] w fun e w' => e = .returned (.int .i64 (Kx.numC (bs s))) ∧ Below w.heap.size w w' := by
  have h0I : (0 : Int) < (s.size : Int) := by omega
  have hh : (bs s).head? = some s[0] := by
    have := drop_at h0
    rw [List.drop_zero] at this
    rw [this]; rfl
  by_cases hl : 1 < s.size ∧ s[0].toNat = 48
  · obtain ⟨hl1, hl2⟩ := hl
    have HR := Lib.hid (Kx.num_lead (w := bs s) (by rw [bs_length]; exact hl1) (by rw [hh, UInt8.toNat_inj.1 (show s[0].toNat = (48 : UInt8).toNat from hl2)]))
    have hlI : (1 : Int) < (s.size : Int) := by omega
    have q1 := is_b hl2
    clear hh hl2
    go_enter Tryd.func75, Tryd.ntmps75
    go_wp2_with fail
    go_ret
    exact ⟨ret_int HR.out.symm, Below.refl _ _⟩
  have hnl : Hid (¬ (1 < (bs s).length ∧ (bs s).head? = some 48)) := Lib.hid (by
    rw [bs_length, hh]
    rintro ⟨a, b⟩
    injection b with b
    exact hl ⟨a, by rw [b]; rfl⟩)
  have hbr : (1 : Int) < (s.size : Int) ∧ (((s[0].toNat : Nat) : Int) == 48) = false ∨ ¬ (1 : Int) < (s.size : Int) := by
    by_cases h1 : 1 < s.size
    · exact .inl ⟨by omega, no_b (fun e => hl ⟨h1, e⟩)⟩
    · exact .inr (by omega)
  clear hl hh
  have hne : Hid (bs s ≠ []) := Lib.hid (fun e => by have := bs_length s; rw [e] at this; simp at this; omega)
  rcases hbr with ⟨hl1, hq⟩ | hl1
  all_goals
    go_enter Tryd.func75, Tryd.ntmps75
    go_wp2_with fail
    go_loop [16] (fun kv => ∃ k : Nat, k ≤ s.size ∧ kv = .int .i64 (k : Int) ∧ Hid (∀ j, (hj : j < k) → ∀ hs : j < s.size, Kx.digC s[j] = true)) (fun kv => s.size - (intOf kv).toNat)
    case atStart => exact ⟨0, Nat.zero_le _, rfl, Lib.hid fun j hj => by omega⟩
    case round =>
      obtain ⟨k, hk, rfl, hok⟩ := hrel
      by_cases hlt : k < s.size
      · have hltI : (k : Int) < (s.size : Int) := by omega
        cases hd : Kx.digC s[k] with
        | true =>
          have HD := Lib.hid hd
          clear hd
          go_wp2_with fail
          refine (digit_c _ _).mono ?_
          rintro e w' ⟨rfl, rfl⟩
          rw [HD.out]
          go_wp2_with fail
          go_round
          case rel => exact ⟨k + 1, by omega, by go_num, Lib.hid fun j hj hs => by
            by_cases e : j = k
            · subst e; exact HD.out
            · exact hok.out j (by omega) hs⟩
          case measure => simp [intOf]; omega
        | false =>
          have HD := Lib.hid hd
          have HR := Lib.hid (Kx.num_bad (w := bs s) (by
            rw [List.all_eq_false]
            exact ⟨s[k], by rw [← get_at hlt]; exact List.getElem_mem _, by rw [hd]; decide⟩))
          clear hd
          go_wp2_with fail
          refine (digit_c _ _).mono ?_
          rintro e w' ⟨rfl, rfl⟩
          rw [HD.out]
          go_wp2_with fail
          go_ret
          exact ⟨ret_int HR.out.symm, Below.refl _ _⟩
      · obtain rfl : k = s.size := by omega
        have hall : (bs s).all Kx.digC = true := by
          rw [List.all_eq_true]
          intro c hc
          obtain ⟨j, hj, rfl⟩ := List.getElem_of_mem hc
          rw [bs_length] at hj
          exact hok.out j hj hj
        have HR := Lib.hid (Kx.num_ok hnl.out hall)
        have HA := Lib.hid hall
        clear hall
        go_wp2_with fail
        refine (atoi_any s hs hne.out HA.out _ hT).mono ?_
        obtain ⟨v, hv⟩ : ∃ v, Hid (Kx.valN (bs s) = v) := ⟨_, Lib.hid rfl⟩
        unfold AtoiRes
        rw [hv.out]
        rintro e w' ⟨hb, rfl | ⟨hbig, z, N, rfl⟩⟩
        · by_cases hbv : 1048576 < v
          · have HR2 := Lib.hid (HR.out.trans (by rw [hv.out, if_pos hbv]))
            have hbI : (1048576 : Int) < (v : Int) := by omega
            go_wp2_with fail
            go_ret
            exact ⟨ret_int HR2.out.symm, hb⟩
          · have HR2 := Lib.hid (HR.out.trans (by rw [hv.out, if_neg hbv]))
            have hbI : ¬ (1048576 : Int) < (v : Int) := by omega
            go_wp2_with fail
            go_ret
            exact ⟨ret_int HR2.out.symm, hb⟩
        · have HR2 := Lib.hid (HR.out.trans (by rw [hv.out, if_pos hbig]))
          go_wp2_with fail
          go_ret
          exact ⟨ret_int HR2.out.symm, hb⟩
end Go.Proofs.YtcckocaaoklibaaDoor
