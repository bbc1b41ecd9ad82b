/- Walks: the law's same, alike, empty and known. -/
import Derived.Test.YtcckocaaoklibaaDoorWb
import Derived.Laws.StructEq
namespace Go.Proofs.YtcckocaaoklibaaDoor
open Go.RowKit
set_option linter.unusedVariables false

theorem tok_cmp (k k' : Int) (t t' : ByteArray) (p p' : Int) (W : World) : (Op.equalIn 10000 40 (.agg #[.int .i64 k, .string t, .int .i64 p]) (.agg #[.int .i64 k', .string t', .int .i64 p'])).run Tryd.prog W = .ok (k == k' && (t.toList == t'.toList && p == p')) W := by
  rw [show (10000 : Nat) = 9998 + 1 + 1 from rfl, run_equalIn_agg W (9998 + 1) 40 _ _ (by kernel_rfl) (by kernel_rfl)]
  have hu := Tryd.underlying40
  have h0 := Tryd.underlying38
  have h1 := Tryd.underlying9
  have h2 := Tryd.underlying3
  unfold Program.fieldsOf
  rw [hu]
  cases hk : k == k' <;> cases ht : t.toList == t'.toList <;> cases hp : p == p' <;> simp [Op.eqFields, part, go_sem, h0, h1, h2, hk, ht, hp]

set_option maxRecDepth 100000 in
set_option maxHeartbeats 4000000 in
theorem same_eq (A : Option Addr) (c : Nat) (B : Option Addr) (d : Nat) (ts : List Kx.Tk) (w : World) (hA : Toks w w.heap.size A ts) (hB : Toks w w.heap.size B ts) (hl : ts.length ≤ 1000000) :
    Calls Tryd.prog 21 #[.slice A ts.length c, .slice B ts.length d] w fun e w' => e = .returned (.bool true) ∧ ∃ q, w' = w.drewN q := by
  go_enter Tryd.func21, Tryd.ntmps21
  go_wp2_with fail
  go_loopw [13] (fun kv wr => ∃ k q : Nat, k ≤ ts.length ∧ kv = .int .i64 (k : Int) ∧ wr = w.drewN q) (fun kv _ => ts.length - (intOf kv).toNat)
  case atStart => exact ⟨0, 0, Nat.zero_le _, rfl, rfl⟩
  case round =>
    obtain ⟨k, q, hk, rfl, rfl⟩ := hrel
    by_cases hlt : k < ts.length
    · have hltI : (k : Int) < (ts.length : Int) := by omega
      obtain ⟨b, off, rfl, hb, c0, c1, c2⟩ := hA.at_ hlt
      obtain ⟨b2, off2, rfl, hb2, d0, d1, d2⟩ := hB.at_ hlt
      revert c0 c1 c2 d0 d1 d2
      generalize ts[k].kind = x
      generalize mkB ts[k].text = y
      generalize (ts[k].pos : Int) = z
      intro c0 c1 c2 d0 d1 d2
      have eqt : ∀ W, (Op.equalIn 10000 40 (.agg #[.int .i64 x, .string y, .int .i64 z]) (.agg #[.int .i64 x, .string y, .int .i64 z])).run Tryd.prog W = .ok true W := fun W => by rw [tok_cmp]; simp
      have gt := Tryd.eqGuardType40
      go_wp2_with fail
      go_quiet (fail)
      go_wp2_with fail
      go_roundw
      case rel => exact ⟨k + 1, q + nq, by omega, by go_num, by first | rfl | exact World.drewN_drewN _ _ _⟩
      case measure => simp [intOf]; omega
    · obtain rfl : k = ts.length := by omega
      go_wp2_with fail
      go_ret
      exact ⟨rfl, q, rfl⟩

set_option maxRecDepth 100000 in
set_option maxHeartbeats 4000000 in
theorem alike_eq (A : Option Addr) (c : Nat) (B : Option Addr) (d : Nat) (ts us : List Kx.Tk) (hlen : ts.length = us.length) (hal : ∀ k, (h : k < ts.length) → ∀ h' : k < us.length, ts[k].kind = us[k].kind ∧ ts[k].text = us[k].text) (w : World) (hA : Toks w w.heap.size A ts) (hB : Toks w w.heap.size B us) (hl : ts.length ≤ 1000000) :
    Calls Tryd.prog 24 #[.slice A ts.length c, .slice B us.length d] w fun e w' => e = .returned (.bool true) ∧ ∃ q, w' = w.drewN q := by
  have HAL := Lib.hid hal
  have hA2 := Lib.hid hlen
  rw [← hlen]
  clear hal hlen
  go_enter Tryd.func24, Tryd.ntmps24
  go_wp2_with fail
  go_loopw [13] (fun kv wr => ∃ k q : Nat, k ≤ ts.length ∧ kv = .int .i64 (k : Int) ∧ wr = w.drewN q) (fun kv _ => ts.length - (intOf kv).toNat)
  case atStart => exact ⟨0, 0, Nat.zero_le _, rfl, rfl⟩
  case round =>
    obtain ⟨k, q, hk, rfl, rfl⟩ := hrel
    by_cases hlt : k < ts.length
    · have hltI : (k : Int) < (ts.length : Int) := by omega
      obtain ⟨b, off, rfl, hb, c0, c1, c2⟩ := hA.at_ hlt
      obtain ⟨b2, off2, rfl, hb2, d0, d1, d2⟩ := hB.at_ (k := k) (by rw [← hA2.out]; exact hlt)
      obtain ⟨e1, e2⟩ := HAL.out k hlt (by rw [← hA2.out]; exact hlt)
      rw [← e1] at d0
      rw [← e2] at d1
      clear e1 e2 c2 d2
      revert c0 c1 d0 d1
      generalize ts[k].kind = x
      generalize mkB ts[k].text = y
      intro c0 c1 d0 d1
      have q1 : (x != x) = false := by simp
      have q2 : (y.toList != y.toList) = false := by simp
      have q3 : (y.toList == y.toList) = true := by simp
      go_wp2_with fail
      go_quiet (fail)
      go_wp2_with fail
      go_roundw
      case rel => exact ⟨k + 1, q + nq, by omega, by go_num, by first | rfl | exact World.drewN_drewN _ _ _⟩
      case measure => simp [intOf]; omega
    · obtain rfl : k = ts.length := by omega
      go_wp2_with fail
      go_ret
      exact ⟨rfl, q, rfl⟩

set_option maxRecDepth 100000 in
set_option maxHeartbeats 4000000 in
/-- a text of white space and comments alone -/
theorem empty_eq (s : ByteArray) (hs : s.size ≤ 1000000) (h : Kx.skipL false (bs s) = []) (w : World) :
    Calls Tryd.prog 22 #[.string s] w fun e w' => e = .returned (.bool true) ∧ w = w' := by
  have H0 : Hid (Kx.skipL false ((bs s).drop 0) = []) := Lib.hid (by rw [List.drop_zero]; exact h)
  clear h
  go_enter Tryd.func22, Tryd.ntmps22
  go_wp2_with fail
  go_loop [3, 7] (fun cv kv => ∃ k : Nat, ∃ cm : Bool, k ≤ s.size ∧ kv = .int .i64 (k : Int) ∧ cv = .bool cm ∧ Hid (Kx.skipL cm ((bs s).drop k) = [])) (fun _ kv => s.size - (intOf kv).toNat)
  case atStart => exact ⟨0, false, Nat.zero_le _, rfl, rfl, H0⟩
  case round =>
    obtain ⟨k, cm, hk, rfl, rfl, hq⟩ := hrel
    by_cases hlt : k < s.size
    · have hltI : (k : Int) < (s.size : Int) := by omega
      have hd := drop_at hlt
      have hq2 := hq.out
      rw [hd, Kx.skip_cons] at hq2
      by_cases h10 : s[k].toNat = 10
      · have e : s[k] = 10 := UInt8.toNat_inj.1 h10
        have HQ : Hid (Kx.skipL false ((bs s).drop (k + 1)) = []) := Lib.hid (by rw [e] at hq2; exact hq2)
        have q1 : (((s[k].toNat : Nat) : Int) == 10) = true := is_i (by omega)
        clear hd hq2 e h10
        go_wp2_with fail
        go_round
        case rel => exact ⟨k + 1, false, by omega, by go_num, rfl, HQ⟩
        case measure => simp [intOf]; omega
      · have q1 : (((s[k].toNat : Nat) : Int) == 10) = false := no_i (by omega)
        rw [if_neg (fun e => h10 (by rw [eq_of_beq e]; rfl))] at hq2
        by_cases h35 : s[k].toNat = 35
        · have e : s[k] = 35 := UInt8.toNat_inj.1 h35
          have HQ : Hid (Kx.skipL true ((bs s).drop (k + 1)) = []) := Lib.hid (by rw [e] at hq2; exact hq2)
          have q2 : (((s[k].toNat : Nat) : Int) == 35) = true := is_i (by omega)
          clear hd hq2 e h10 h35
          go_wp2_with fail
          go_round
          case rel => exact ⟨k + 1, true, by omega, by go_num, rfl, HQ⟩
          case measure => simp [intOf]; omega
        · have q2 : (((s[k].toNat : Nat) : Int) == 35) = false := no_i (by omega)
          rw [if_neg (fun e => h35 (by rw [eq_of_beq e]; rfl))] at hq2
          cases cm with
          | true =>
            have HQ : Hid (Kx.skipL true ((bs s).drop (k + 1)) = []) := Lib.hid (by
              revert hq2
              split
              · exact id
              · exact id)
            clear hd hq2 h10 h35
            go_wp2_with fail
            go_round
            case rel => exact ⟨k + 1, true, by omega, by go_num, rfl, HQ⟩
            case measure => simp [intOf]; omega
          | false =>
            have hbl : Kx.blC s[k] = true := by
              cases hb : Kx.blC s[k] with
              | true => rfl
              | false => rw [hb, if_neg (by decide), if_neg (by decide)] at hq2; cases hq2
            rw [hbl, if_pos rfl] at hq2
            have HQ := Lib.hid hq2
            unfold Kx.blC at hbl
            rw [Bool.or_eq_true, beq_iff_eq, beq_iff_eq] at hbl
            clear hq2 hd
            by_cases h32 : s[k].toNat = 32
            · have q3 : (((s[k].toNat : Nat) : Int) != 32) = false := by simp; omega
              clear hbl h10 h35 h32
              go_wp2_with fail
              go_round
              case rel => exact ⟨k + 1, false, by omega, by go_num, rfl, HQ⟩
              case measure => simp [intOf]; omega
            · have q3 : (((s[k].toNat : Nat) : Int) != 32) = true := by simp; omega
              have h9 : s[k].toNat = 9 := by
                rcases hbl with e | e
                · exact absurd (by rw [e]; rfl) h32
                · rw [e]; rfl
              have q4 : (((s[k].toNat : Nat) : Int) != 9) = false := by simp; omega
              clear hbl h10 h35 h32 h9
              go_wp2_with fail
              go_round
              case rel => exact ⟨k + 1, false, by omega, by go_num, rfl, HQ⟩
              case measure => simp [intOf]; omega
    · obtain rfl : k = s.size := by omega
      go_wp2_with fail
      go_ret
      exact ⟨rfl, rfl⟩

theorem lex_known1 : Kx.lexA [97, 49, 32, 61, 32, 50, 48, 46, 46, 120, 59, 32, 35, 32, 101, 110, 100] = ([⟨0, [97, 49], 0⟩, ⟨3, [61], 3⟩, ⟨1, [50, 48], 5⟩, ⟨3, [46, 46], 7⟩, ⟨0, [120], 9⟩, ⟨3, [59], 10⟩], none) := by decide +kernel
theorem lex_known2 : Kx.lexA [97, 32, 38, 32, 98] = ([⟨0, [97], 0⟩], some (2, 6)) := by decide +kernel
set_option maxRecDepth 100000 in
set_option maxHeartbeats 4000000 in
theorem known_ok (w : World) (hT : LexT w) : Calls Tryd.prog 18 #[] w fun e w' => e = .returned (.bool true) ∧ Below w.heap.size w w' := by
  have h1 := fun W (hW : LexT W) => lex_any ⟨#[97, 49, 32, 61, 32, 50, 48, 46, 46, 120, 59, 32, 35, 32, 101, 110, 100]⟩ (by decide) W hW
  have h2 := fun W (hW : LexT W) => lex_any ⟨#[97, 32, 38, 32, 98]⟩ (by decide) W hW
  unfold LexRes at h1 h2
  rw [show bs ⟨#[97, 49, 32, 61, 32, 50, 48, 46, 46, 120, 59, 32, 35, 32, 101, 110, 100]⟩ = [97, 49, 32, 61, 32, 50, 48, 46, 46, 120, 59, 32, 35, 32, 101, 110, 100] from rfl, lex_known1] at h1
  rw [show bs ⟨#[97, 32, 38, 32, 98]⟩ = [97, 32, 38, 32, 98] from rfl, lex_known2] at h2
  have H1 := Lib.hid h1
  have H2 := Lib.hid h2
  clear h1 h2
  go_enter Tryd.func18, Tryd.ntmps18
  go_wp2_with fail
  refine (H1.out _ hT).mono ?_
  rintro e w1 ⟨b1, ⟨hx, _⟩ | ⟨_, p, c, hx, _⟩ | ⟨_, _, A, cap, rfl, hA⟩⟩
  · simp at hx
  · cases hx
  go_wp2_with fail
  refine (H2.out _ (hT.below b1)).mono ?_
  rintro e w2 ⟨b2, ⟨hx, _⟩ | ⟨_, p, c, hx, _, rfl⟩ | ⟨_, hx, _⟩⟩
  · simp at hx
  · injection hx with hx
    injection hx with hp hc
    subst hp hc
    have hA2 := hA.at b2
    obtain ⟨b, off, rfl, hb, c0, c1, c2⟩ := hA2.at_ (k := 2) (by decide)
    obtain ⟨b', off', he, hb', d0, d1, d2⟩ := hA2.at_ (k := 3) (by decide)
    injection he with he
    injection he with e1 e2
    subst e1 e2
    have e1 : ∀ W, (Op.equalIn 10000 40 (.agg #[.int .i64 1, .string ⟨#[50, 48]⟩, .int .i64 5]) (.agg #[.int .i64 1, .string ⟨#[50, 48]⟩, .int .i64 5])).run Tryd.prog W = .ok true W := fun W => by rw [tok_cmp]; simp
    have e2 : ∀ W, (Op.equalIn 10000 40 (.agg #[.int .i64 3, .string ⟨#[46, 46]⟩, .int .i64 7]) (.agg #[.int .i64 3, .string ⟨#[46, 46]⟩, .int .i64 7])).run Tryd.prog W = .ok true W := fun W => by rw [tok_cmp]; simp
    have gt := Tryd.eqGuardType40
    have c0' : w2.cell? ⟨b, off + 6, none⟩ = some (.int .i64 1) := c0
    have c1' : w2.cell? ⟨b, off + 6 + 1, none⟩ = some (.string ⟨#[50, 48]⟩) := c1
    have c2' : w2.cell? ⟨b, off + 6 + 2, none⟩ = some (.int .i64 5) := c2
    have d0' : w2.cell? ⟨b, off + 9, none⟩ = some (.int .i64 3) := d0
    have d1' : w2.cell? ⟨b, off + 9 + 1, none⟩ = some (.string ⟨#[46, 46]⟩) := d1
    have d2' : w2.cell? ⟨b, off + 9 + 2, none⟩ = some (.int .i64 7) := d2
    clear c0 c1 c2 d0 d1 d2 hA hA2
    have hbel := bTrans b1 b2
    go_wp2_with fail
    go_ret
    exact ⟨rfl, hbel⟩
  · cases hx
end Go.Proofs.YtcckocaaoklibaaDoor
