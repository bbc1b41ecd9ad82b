/- Walks: trim, comma of the reference of package cost. -/
import Derived.Test.YtmemkcaikajnnaaGreatDoorT3
namespace Go.Proofs.YtmemkcaikajnnaaGreatDoor
open Go.RowKit Go.Sort
set_option linter.unusedVariables false

def strK : Value → Nat
  | .string s => s.size
  | _ => 0
namespace Kp
theorem dw_cons_t {f : UInt8 → Bool} {a : UInt8} {l : List UInt8} (h : f a = true) : (a :: l).dropWhile f = l.dropWhile f := by rw [List.dropWhile_cons, h]; rfl
theorem dw_cons_f {f : UInt8 → Bool} {a : UInt8} {l : List UInt8} (h : f a = false) : (a :: l).dropWhile f = a :: l := by rw [List.dropWhile_cons, h]; rfl
theorem tr_snoc_t {f : UInt8 → Bool} {a : UInt8} {l : List UInt8} (h : f a = true) : ((l ++ [a]).reverse.dropWhile f).reverse = (l.reverse.dropWhile f).reverse := by
  rw [List.reverse_append]; show ((a :: l.reverse).dropWhile f).reverse = _; rw [dw_cons_t h]
theorem tr_snoc_f {f : UInt8 → Bool} {a : UInt8} {l : List UInt8} (h : f a = false) : ((l ++ [a]).reverse.dropWhile f).reverse = l ++ [a] := by
  rw [List.reverse_append]; show ((a :: l.reverse).dropWhile f).reverse = _; rw [dw_cons_f h, List.reverse_cons, List.reverse_reverse]
theorem dw_nil {f : UInt8 → Bool} : ∀ l : List UInt8, (∀ x ∈ l, f x = true) → l.dropWhile f = [] := by
  intro l
  induction l with
  | nil => intro _; rfl
  | cons a l ih => intro h; rw [dw_cons_t (h a (List.mem_cons_self ..))]; exact ih (fun x hx => h x (List.mem_cons_of_mem _ hx))
/-- both orders of trimming give the same -/
theorem trim_comm (f : UInt8 → Bool) (l : List UInt8) : ((l.dropWhile f).reverse.dropWhile f).reverse = ((l.reverse.dropWhile f).reverse).dropWhile f := by
  by_cases hall : l.all f = true
  · have e1 : l.dropWhile f = [] := dw_nil _ (fun x hx => List.all_eq_true.1 hall x hx)
    have e2 : l.reverse.dropWhile f = [] := dw_nil _ (fun x hx => List.all_eq_true.1 hall x (List.mem_reverse.1 hx))
    rw [e1, e2]; rfl
  · induction l with
    | nil => exact absurd rfl hall
    | cons a l ih =>
      by_cases ha : f a = true
      · have hl : ¬ l.all f = true := fun h => hall (by rw [List.all_cons, ha, h]; rfl)
        rw [dw_cons_t ha, ih hl]
        have e : (a :: l).reverse.dropWhile f = l.reverse.dropWhile f ++ [a] := by
          rw [List.reverse_cons]
          have key : ∀ m : List UInt8, ¬ m.all f = true → (m ++ [a]).dropWhile f = m.dropWhile f ++ [a] := by
            intro m
            induction m with
            | nil => intro h; exact absurd rfl h
            | cons b m ihm =>
              intro h
              by_cases hb : f b = true
              · rw [List.cons_append, dw_cons_t hb, dw_cons_t hb]
                exact ihm (fun h2 => h (by rw [List.all_cons, hb, h2]; rfl))
              · have hb' : f b = false := by simpa using hb
                rw [List.cons_append, dw_cons_f hb', dw_cons_f hb']; rfl
          exact key _ (by rw [List.all_reverse]; exact hl)
        rw [e, List.reverse_append]
        show _ = (a :: (l.reverse.dropWhile f).reverse).dropWhile f
        rw [dw_cons_t ha]
      · have ha' : f a = false := by simpa using ha
        rw [dw_cons_f ha']
        have e : ∃ m, ((a :: l).reverse.dropWhile f).reverse = a :: m := by
          rw [List.reverse_cons]
          have key : ∀ m : List UInt8, ∃ z, (m ++ [a]).dropWhile f = z ++ [a] := by
            intro m
            induction m with
            | nil => exact ⟨[], dw_cons_f ha'⟩
            | cons b m ihm =>
              by_cases hb : f b = true
              · obtain ⟨z, hz⟩ := ihm
                exact ⟨z, by rw [List.cons_append, dw_cons_t hb, hz]⟩
              · have hb' : f b = false := by simpa using hb
                exact ⟨b :: m, by rw [List.cons_append, dw_cons_f hb']⟩
          obtain ⟨z, hz⟩ := key l.reverse
          exact ⟨z.reverse, by rw [hz, List.reverse_append]; rfl⟩
        obtain ⟨m, hm⟩ := e
        rw [hm, dw_cons_f ha']
end Kp
set_option maxRecDepth 100000 in
set_option maxHeartbeats 1500000 in
theorem rtrim_any (s : ByteArray) (hs : s.size ≤ 1000000) (w : World) : Calls Tryz.prog 26 #[.string s] w fun r w' => r = .returned (.string (mkB (Lib.trimB (bs s) 32))) ∧ Below w.heap.size w w' := by
  obtain ⟨R, hR⟩ : ∃ R, Hid (Lib.trimB (bs s) 32 = R) := ⟨_, Lib.hid rfl⟩
  have HRL : Hid ((((bs s).dropWhile Kp.sp).reverse.dropWhile Kp.sp).reverse = R) := Lib.hid (by rw [← hR.out, Kp.trim_comm]; rfl)
  rw [hR.out]
  have HS0 := Lib.hid hs
  clear hR hs
  go_enter Tryz.func26, Tryz.ntmps26
  go_wp2_with fail
  go_loopw [0] (fun sv wr => ∃ d : ByteArray, sv = .string d ∧ d.size ≤ 1000000 ∧ Hid ((((bs d).dropWhile Kp.sp).reverse.dropWhile Kp.sp).reverse = R) ∧ Below w.heap.size w wr) (fun sv _ => strK sv)
  case atStart => exact ⟨s, rfl, HS0.out, HRL, Below.refl _ _⟩
  case round =>
    clear HRL HS0
    obtain ⟨d, rfl, hd, HR, bel⟩ := hrel
    have leave : ∀ (hne : bs d = [] ∨ ∃ c r, bs d = c :: r ∧ Kp.sp c = false), Hid (((bs d).reverse.dropWhile Kp.sp).reverse = R) := fun hne => Lib.hid (by
      rw [← HR.out]
      rcases hne with h | ⟨c, r, h, hc⟩
      · rw [h]; rfl
      · rw [h, Kp.dw_cons_f hc])
    by_cases h0 : 0 < d.size
    · have h0I : (0 : Int) < (d.size : Int) := by omega
      have hd0 := drop_at h0
      rw [List.drop_zero] at hd0
      by_cases h32 : d[0].toNat = 32
      · have q1 : (((d[0].toNat : Nat) : Int) == 32) = true := by rw [h32]; rfl
        have hsp : Kp.sp d[0] = true := by unfold Kp.sp; rw [beq_iff_eq]; exact UInt8.toNat_inj.1 (show d[0].toNat = (32 : UInt8).toNat from h32)
        have HR2 : Hid ((((bs (d.extract 1 d.size)).dropWhile Kp.sp).reverse.dropWhile Kp.sp).reverse = R) := Lib.hid (by
          have e : (bs d).dropWhile Kp.sp = ((bs d).drop 1).dropWhile Kp.sp := by
            conv => lhs; rw [hd0, Kp.dw_cons_t hsp]
          rw [← HR.out, ext_from, bs_mk, e])
        have h1I : (1 : Int) ≤ (d.size : Int) := by omega
        have hsz : (d.extract 1 d.size).size ≤ 1000000 := by rw [ByteArray.size_extract]; omega
        have HM : Hid ((d.extract 1 d.size).size < d.size) := Lib.hid (by rw [ByteArray.size_extract]; omega)
        clear hd0 hsp leave h32
        go_wp2_with fail
        go_roundw
        case rel => exact ⟨_, rfl, hsz, HR2, bel⟩
        case measure => exact HM.out
      · have q1 : (((d[0].toNat : Nat) : Int) == 32) = false := by rw [beq_eq_false_iff_ne]; omega
        have HL := leave (.inr ⟨_, _, hd0, by unfold Kp.sp; rw [beq_eq_false_iff_ne]; intro e; exact h32 (by rw [e]; rfl)⟩)
        clear hd0 leave h32 HR
        go_wp2_with fail
        clear q1
        go_loopw [0] (fun sv wr => ∃ d : ByteArray, sv = .string d ∧ d.size ≤ 1000000 ∧ Hid (((bs d).reverse.dropWhile Kp.sp).reverse = R) ∧ Below w.heap.size w wr) (fun sv _ => strK sv)
        case atStart => exact ⟨d, rfl, hd, HL, bel⟩
        case round =>
          clear HL bel hd
          obtain ⟨d, rfl, hd, HR, bel⟩ := hrel
          by_cases h0 : 0 < d.size
          · obtain ⟨k, hk⟩ : ∃ k, d.size = k + 1 := ⟨d.size - 1, by omega⟩
            have h0I : (0 : Int) < (d.size : Int) := by omega
            have hw : IntKind.i64.wrap ((d.size : Int) - 1) = (k : Int) := by rw [IntWalk.i64_in _ (by omega)]; omega
            have hkl : k < d.size := by omega
            obtain ⟨x, hx⟩ : ∃ x : Nat, d[k].toNat = x := ⟨_, rfl⟩
            have hix := index_run3 (s := d) (i := k) (x := (x : Int)) hkl (by rw [hx])
            have hsn : bs d = (bs d).take k ++ [d[k]] := by
              have hl : k < (bs d).length := by rw [bs_length]; exact hkl
              have h2 := List.drop_eq_getElem_cons hl
              rw [drop_at hkl] at h2
              injection h2 with h2 _
              rw [h2, ← List.take_succ_eq_append_getElem hl, List.take_of_length_le (by rw [bs_length]; omega)]
            by_cases h32 : x = 32
            · have q1 : ((x : Int) == 32) = true := by rw [h32]; rfl
              have hsp : Kp.sp d[k] = true := by unfold Kp.sp; rw [beq_iff_eq]; exact UInt8.toNat_inj.1 (show d[k].toNat = (32 : UInt8).toNat from hx.trans h32)
              have HR2 : Hid (((bs (d.extract 0 k)).reverse.dropWhile Kp.sp).reverse = R) := Lib.hid (by
                have h := HR.out
                rw [hsn, Kp.tr_snoc_t hsp] at h
                rw [ext_to, bs_mk]; exact h)
              have hsz : (d.extract 0 k).size ≤ 1000000 := by rw [ByteArray.size_extract]; omega
              have HM : Hid ((d.extract 0 k).size < d.size) := Lib.hid (by rw [ByteArray.size_extract]; omega)
              have hkI : (k : Int) ≤ (d.size : Int) := by omega
              clear hsn hsp h32 hx hk
              go_wp2_with fail
              go_roundw
              case rel => exact ⟨_, rfl, hsz, HR2, bel⟩
              case measure => exact HM.out
            · have q1 : ((x : Int) == 32) = false := by rw [beq_eq_false_iff_ne]; omega
              have HF : Hid (mkB R = d) := Lib.hid (by
                have h := HR.out
                rw [hsn, Kp.tr_snoc_f (by unfold Kp.sp; rw [beq_eq_false_iff_ne]; intro e; exact h32 (by rw [← hx, e]; rfl)), ← hsn] at h
                rw [← h, mk_bs])
              clear hsn h32 hx hk
              go_wp2_with fail
              go_ret
              exact ⟨by rw [HF.out]; rfl, bel⟩
          · have h0I : ¬ (0 : Int) < (d.size : Int) := by omega
            have h0D : decide ((0 : Int) < (d.size : Int)) = false := decide_eq_false h0I
            have HF : Hid (mkB R = d) := Lib.hid (by
              have e := (nil_iff d).2 (by omega)
              have h := HR.out
              rw [e] at h
              rw [← mk_bs d, e, ← h]; rfl)
            go_wp2_with fail
            go_ret
            exact ⟨by rw [HF.out]; rfl, bel⟩
    · have h0I : ¬ (0 : Int) < (d.size : Int) := by omega
      have h0D : decide ((0 : Int) < (d.size : Int)) = false := decide_eq_false h0I
      have HL := leave (.inl ((nil_iff d).2 (by omega)))
      clear leave HR
      go_wp2_with fail
      clear h0I h0D
      go_loopw [0] (fun sv wr => ∃ d : ByteArray, sv = .string d ∧ d.size ≤ 1000000 ∧ Hid (((bs d).reverse.dropWhile Kp.sp).reverse = R) ∧ Below w.heap.size w wr) (fun sv _ => strK sv)
      case atStart => exact ⟨d, rfl, hd, HL, bel⟩
      case round =>
        clear HL bel hd
        obtain ⟨d, rfl, hd, HR, bel⟩ := hrel
        by_cases h0 : 0 < d.size
        · obtain ⟨k, hk⟩ : ∃ k, d.size = k + 1 := ⟨d.size - 1, by omega⟩
          have h0I : (0 : Int) < (d.size : Int) := by omega
          have hw : IntKind.i64.wrap ((d.size : Int) - 1) = (k : Int) := by rw [IntWalk.i64_in _ (by omega)]; omega
          have hkl : k < d.size := by omega
          obtain ⟨x, hx⟩ : ∃ x : Nat, d[k].toNat = x := ⟨_, rfl⟩
          have hix := index_run3 (s := d) (i := k) (x := (x : Int)) hkl (by rw [hx])
          have hsn : bs d = (bs d).take k ++ [d[k]] := by
            have hl : k < (bs d).length := by rw [bs_length]; exact hkl
            have h2 := List.drop_eq_getElem_cons hl
            rw [drop_at hkl] at h2
            injection h2 with h2 _
            rw [h2, ← List.take_succ_eq_append_getElem hl, List.take_of_length_le (by rw [bs_length]; omega)]
          by_cases h32 : x = 32
          · have q1 : ((x : Int) == 32) = true := by rw [h32]; rfl
            have hsp : Kp.sp d[k] = true := by unfold Kp.sp; rw [beq_iff_eq]; exact UInt8.toNat_inj.1 (show d[k].toNat = (32 : UInt8).toNat from hx.trans h32)
            have HR2 : Hid (((bs (d.extract 0 k)).reverse.dropWhile Kp.sp).reverse = R) := Lib.hid (by
              have h := HR.out
              rw [hsn, Kp.tr_snoc_t hsp] at h
              rw [ext_to, bs_mk]; exact h)
            have hsz : (d.extract 0 k).size ≤ 1000000 := by rw [ByteArray.size_extract]; omega
            have HM : Hid ((d.extract 0 k).size < d.size) := Lib.hid (by rw [ByteArray.size_extract]; omega)
            have hkI : (k : Int) ≤ (d.size : Int) := by omega
            clear hsn hsp h32 hx hk
            go_wp2_with fail
            go_roundw
            case rel => exact ⟨_, rfl, hsz, HR2, bel⟩
            case measure => exact HM.out
          · have q1 : ((x : Int) == 32) = false := by rw [beq_eq_false_iff_ne]; omega
            have HF : Hid (mkB R = d) := Lib.hid (by
              have h := HR.out
              rw [hsn, Kp.tr_snoc_f (by unfold Kp.sp; rw [beq_eq_false_iff_ne]; intro e; exact h32 (by rw [← hx, e]; rfl)), ← hsn] at h
              rw [← h, mk_bs])
            clear hsn h32 hx hk
            go_wp2_with fail
            go_ret
            exact ⟨by rw [HF.out]; rfl, bel⟩
        · have h0I : ¬ (0 : Int) < (d.size : Int) := by omega
          have h0D : decide ((0 : Int) < (d.size : Int)) = false := decide_eq_false h0I
          have HF : Hid (mkB R = d) := Lib.hid (by
            have e := (nil_iff d).2 (by omega)
            have h := HR.out
            rw [e] at h
            rw [← mk_bs d, e, ← h]; rfl)
          go_wp2_with fail
          go_ret
          exact ⟨by rw [HF.out]; rfl, bel⟩
/-- the place of the first comma, or the length -/
def ComP (t : List UInt8) (k : Nat) : Prop := k ≤ t.length ∧ (∀ j, j < k → t[j]? ≠ some 44) ∧ (k < t.length → t[k]? = some 44)
theorem at_byteK {d : ByteArray} {i : Nat} (h : i < d.size) : (bs d)[i]? = some d[i] := by
  have hl : i < (bs d).length := by rw [bs_length]; exact h
  have h2 := List.drop_eq_getElem_cons hl
  rw [drop_at h] at h2
  injection h2 with h2 _
  rw [List.getElem?_eq_getElem hl, ← h2]
set_option maxRecDepth 100000 in
set_option maxHeartbeats 1000000 in
theorem rcomma_any (s : ByteArray) (hs : s.size ≤ 1000000) (w : World) : Calls Tryz.prog 28 #[.string s] w fun r w' => (∃ k : Nat, r = .returned (.int .i64 (k : Int)) ∧ ComP (bs s) k) ∧ Below w.heap.size w w' := by
  have HL := Lib.hid (bs_length s)
  go_enter Tryz.func28, Tryz.ntmps28
  go_wp2_with fail
  go_loopw [3] (fun iv wr => ∃ i : Nat, i ≤ s.size ∧ iv = .int .i64 (i : Int) ∧ Hid (∀ j, j < i → (bs s)[j]? ≠ some 44) ∧ Below w.heap.size w wr) (fun iv _ => s.size - (intOf iv).toNat)
  case atStart => exact ⟨0, Nat.zero_le _, rfl, Lib.hid (fun j hj => absurd hj (Nat.not_lt_zero _)), Below.refl _ _⟩
  case round =>
    obtain ⟨i, hi, rfl, HA, bel⟩ := hrel
    by_cases hlt : i < s.size
    · have hltI : (i : Int) < (s.size : Int) := by omega
      obtain ⟨x, hx⟩ : ∃ x : Nat, s[i].toNat = x := ⟨_, rfl⟩
      have hix := index_run3 (x := (x : Int)) hlt (by rw [hx])
      have hat := at_byteK hlt
      have hwk : IntKind.i64.wrap ((i : Int) + 1) = ((i + 1 : Nat) : Int) := (IntWalk.i64_in _ (by omega)).trans (by omega)
      by_cases h44 : x = 44
      · have q1 : ((x : Int) == 44) = true := by rw [h44]; rfl
        have HC : Hid (ComP (bs s) i) := Lib.hid ⟨by rw [HL.out]; exact hi, HA.out, fun _ => by rw [hat]; congr 1; exact UInt8.toNat_inj.1 (show s[i].toNat = (44 : UInt8).toNat from hx.trans h44)⟩
        clear h44 hx hat
        go_wp2_with fail
        go_ret
        exact ⟨⟨i, rfl, HC.out⟩, bel⟩
      · have q1 : ((x : Int) == 44) = false := by rw [beq_eq_false_iff_ne]; omega
        have HA2 : Hid (∀ j, j < i + 1 → (bs s)[j]? ≠ some 44) := Lib.hid (fun j hj => by
          by_cases e : j = i
          · subst e
            rw [hat]
            intro h; injection h with h
            exact h44 (by rw [← hx, h]; rfl)
          · exact HA.out j (by omega))
        clear h44 hx hat HA
        go_wp2_with fail
        go_roundw
        case rel => exact ⟨i + 1, by omega, by first | go_num | rfl, HA2, bel⟩
        case measure => first | (simp [intOf]; omega) | (simp [intOf, hwk]; omega)
    · obtain rfl : i = s.size := by omega
      have HC : Hid (ComP (bs s) s.size) := Lib.hid ⟨by rw [HL.out]; exact Nat.le_refl _, HA.out, fun h => by rw [HL.out] at h; omega⟩
      clear HA
      go_wp2_with fail
      go_ret
      exact ⟨⟨s.size, rfl, HC.out⟩, bel⟩
end Go.Proofs.YtmemkcaikajnnaaGreatDoor
