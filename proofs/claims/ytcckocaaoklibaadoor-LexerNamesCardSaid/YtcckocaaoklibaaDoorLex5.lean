/- Plain laws of lexing: names and words. -/
import Derived.Test.YtcckocaaoklibaaDoorLex4
namespace Go.Proofs.YtcckocaaoklibaaDoor.Kx
set_option linter.unusedVariables false

def nameB (l : List UInt8) : Bool := match l with
  | [] => false
  | c :: r => letC c && ((c :: r).takeWhile alC == c :: r) && decide ((c :: r).length ≤ 12) && !resB (c :: r)
/-- one token that is the whole text -/
theorem one_whole {l : List UInt8} {t : Tk} (h : lexA l = ([t], none)) (hp : t.pos = 0) (ht : t.text = l) : l ≠ [] ∧ (tk l).2.2 = 0 ∧ (tk l).1 = t.kind ∧ (tk l).2.1 = l.length := by
  have hl := skip_len false l
  have hd := skip_drop false l
  have hh := skip_hd false l
  unfold lexA at h
  generalize skipL false l = m at *
  cases m with
  | nil => rw [lexR_nil] at h; cases h
  | cons c r =>
    by_cases h2 : (tk (c :: r)).2.2 = 0
    · rw [lexR_ok h2] at h
      have hpp := tk_pos h2
      injection h with h1 h3
      injection h1 with h1 _
      rw [← h1] at hp ht ⊢
      have hm : (c :: r).length = l.length := by
        have : l.length - (c :: r).length = 0 := hp
        omega
      have e : c :: r = l := by rw [hd, hm, Nat.sub_self, List.drop_zero]
      rw [e] at h2 ht hpp ⊢
      refine ⟨by rw [← e]; simp, h2, rfl, ?_⟩
      have := congrArg List.length ht
      rw [List.length_take] at this
      omega
    · rw [lexR_bad (by simp) h2] at h; cases h
theorem tw_all {l : List UInt8} (h : (l.takeWhile alC).length = l.length) : l.takeWhile alC = l := by
  have := List.takeWhile_prefix alC (l := l)
  exact this.eq_of_length h
theorem kno {a x b : Int} (h : a ≠ b) (h1 : a = x) (h2 : x = b) {P : Prop} : P := absurd (h1.trans h2) h
theorem one_name {l : List UInt8} {t : Tk} (h : lexA l = ([t], none)) (hp : t.pos = 0) (ht : t.text = l) : (t.kind = 0 → nameB l = true) ∧ (t.kind = 2 → resB l = true) := by
  obtain ⟨h0, h1, h2, h3⟩ := one_whole h hp ht
  rcases tk_cases l with rfl | ⟨c, r, rfl, hc | ⟨hc, hd⟩ | ⟨hc, hd⟩⟩
  · exact absurd rfl h0
  · rw [tk_let hc] at h1 h2 h3
    by_cases hr : resB ((c :: r).takeWhile alC) = true
    · rw [if_pos hr] at h1 h2 h3
      have e := tw_all h3
      rw [e] at hr
      refine ⟨fun hk => ?_, fun _ => hr⟩
      exact kno (by decide : (2 : Int) ≠ 0) h2 hk
    · rw [if_neg hr] at h1 h2 h3
      have e := tw_all h3
      rw [e] at hr h1
      refine ⟨fun _ => ?_, fun hk => kno (by decide : (0 : Int) ≠ 2) h2 hk⟩
      unfold nameB
      dsimp only
      rw [hc, e]
      have hlen : (c :: r).length ≤ 12 := by
        by_cases hb : 12 < (c :: r).length
        · dsimp only at h1
          rw [if_pos hb] at h1; cases h1
        · omega
      rw [decide_eq_true hlen]
      simp [hr]
  · rw [tk_dig hc hd] at h2
    exact ⟨fun hk => kno (by decide : (1 : Int) ≠ 0) h2 hk, fun hk => kno (by decide : (1 : Int) ≠ 2) h2 hk⟩
  · rw [tk_sig hc hd] at h2
    exact ⟨fun hk => kno (by decide : (3 : Int) ≠ 0) h2 hk, fun hk => kno (by decide : (3 : Int) ≠ 2) h2 hk⟩
theorem let_hd {c : UInt8} {r : List UInt8} (h : letC c = true) : hdOk (c :: r) := by
  refine ⟨?_, ?_, ?_⟩
  · rintro rfl; revert h; decide
  · rintro rfl; revert h; decide
  · cases hb : blC c with
    | false => rfl
    | true =>
      unfold blC at hb
      simp only [Bool.or_eq_true, beq_iff_eq] at hb
      rcases hb with rfl | rfl <;> (revert h; decide)
theorem lexA_whole {l : List UInt8} (hh : hdOk l) (k : Int) (hk : tk l = (k, l.length, 0)) : lexA l = ([⟨k, l, 0⟩], none) := by
  unfold lexA
  rw [skip_id hh, lexR_ok (by rw [hk])]
  rw [hk]
  dsimp only
  rw [List.drop_length, List.take_length, Nat.sub_self]
  rfl
theorem name_lex {l : List UInt8} (h : nameB l = true) : lexA l = ([⟨0, l, 0⟩], none) := by
  cases l with
  | nil => cases h
  | cons c r =>
    unfold nameB at h
    dsimp only at h
    simp only [Bool.and_eq_true, decide_eq_true_eq, beq_iff_eq, Bool.not_eq_true'] at h
    obtain ⟨⟨⟨hc, e⟩, hl⟩, hr⟩ := h
    refine lexA_whole (let_hd hc) 0 ?_
    rw [tk_let hc, e, hr, if_neg (by decide), if_neg (by omega)]
theorem res_lets : (resW.all fun w => w.all letC && !w.isEmpty) = true := by decide +kernel
theorem res_lex {l : List UInt8} (h : resB l = true) : lexA l = ([⟨2, l, 0⟩], none) := by
  have hall := res_lets
  rw [List.all_eq_true] at hall
  have hm : l ∈ resW := by unfold resB at h; simpa using h
  have := hall l hm
  rw [Bool.and_eq_true] at this
  obtain ⟨h1, h2⟩ := this
  cases l with
  | nil => cases h2
  | cons c r =>
    have hc : letC c = true := by rw [List.all_cons, Bool.and_eq_true] at h1; exact h1.1
    have e : (c :: r).takeWhile alC = c :: r := by
      have ha : (c :: r).all alC = true := by
        rw [List.all_eq_true] at h1 ⊢
        intro x hx
        unfold alC
        rw [h1 x hx]; rfl
      have := run_app (q := []) ha (fun _ _ h => by cases h)
      rwa [List.append_nil] at this
    refine lexA_whole (let_hd hc) 2 ?_
    rw [tk_let hc, e, h, if_pos rfl]
end Go.Proofs.YtcckocaaoklibaaDoor.Kx
