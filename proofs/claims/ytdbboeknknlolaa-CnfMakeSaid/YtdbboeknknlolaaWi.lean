/- The laws' own functions: plain, True; the canonical form has the same models. -/
import Derived.Test.YtdbboeknknlolaaW6
namespace Go.Proofs.Ytdbboeknknlolaa
open Go.RowKit Go.Sort
set_option linter.unusedVariables false

/-- is it a literal of a variable from 1 to 6? -/
def pl6 (x : Int) : Bool := decide (x ≠ 0) && decide (x.natAbs ≤ 6)
def plL (L : List (List Int)) : Bool := L.all fun z => z.all pl6
theorem taut_two : ∀ {l : List Int}, taut l = true → ∃ x ∈ l, neg x ∈ l ∧ True := by
  intro l
  induction l with
  | nil => intro h; cases h
  | cons a l ih =>
    intro h
    cases l with
    | nil => cases h
    | cons b l =>
      have h2 : (decide (a = neg b) || taut (b :: l)) = true := h
      rw [Bool.or_eq_true, decide_eq_true_eq] at h2
      rcases h2 with h2 | h2
      · exact ⟨b, by simp, by rw [← h2]; simp, trivial⟩
      · obtain ⟨x, h3, h4, _⟩ := ih h2
        exact ⟨x, by simp [h3], List.mem_cons_of_mem _ h4, trivial⟩
theorem canL_mem {L : List (List Int)} {z : List Int} : z ∈ canL L ↔ (∃ y ∈ L, srtL y = z) ∧ taut z = false := by
  unfold canL
  rw [srt_mem clC_cmp, List.mem_filter, List.mem_map]
  simp
theorem srtL_any (f : Int → Bool) (y : List Int) : (srtL y).any f = y.any f := by
  rw [Bool.eq_iff_iff, List.any_eq_true, List.any_eq_true]
  constructor
  · rintro ⟨x, h1, h2⟩; exact ⟨x, (srt_mem litC_cmp x y).1 h1, h2⟩
  · rintro ⟨x, h1, h2⟩; exact ⟨x, (srt_mem litC_cmp x y).2 h1, h2⟩
theorem pl6_neg {x : Int} (h : pl6 x = true) : neg x = -x ∧ x ≠ 0 ∧ x.natAbs ≤ 6 := by
  unfold pl6 at h
  rw [Bool.and_eq_true, decide_eq_true_eq, decide_eq_true_eq] at h
  exact ⟨by unfold neg; rw [if_neg (by omega)], h.1, h.2⟩
theorem plL_mem {L : List (List Int)} (h : plL L = true) {z : List Int} (hz : z ∈ L) {x : Int} (hx : x ∈ z) : pl6 x = true :=
  List.all_eq_true.1 (List.all_eq_true.1 h z hz) x hx
theorem plL_can {L : List (List Int)} (h : plL L = true) : plL (canL L) = true := by
  refine List.all_eq_true.2 fun z hz => List.all_eq_true.2 fun x hx => ?_
  obtain ⟨⟨y, hy, rfl⟩, _⟩ := canL_mem.1 hz
  exact plL_mem h hy ((srt_mem litC_cmp x y).1 hx)
/-- the canonical form has the same models -/
theorem models_eq (f : Int → Bool) (hf : ∀ x : Int, x ≠ 0 → f (-x) = !f x) {L : List (List Int)} (h : plL L = true) : ((canL L).all fun z => z.any f) = L.all fun z => z.any f := by
  rw [Bool.eq_iff_iff, List.all_eq_true, List.all_eq_true]
  constructor
  · intro H y hy
    rw [← srtL_any]
    cases ht : taut (srtL y) with
    | false => exact H _ (canL_mem.2 ⟨⟨y, hy, rfl⟩, ht⟩)
    | true =>
      obtain ⟨x, h1, h2, _⟩ := taut_two ht
      have h3 := pl6_neg (plL_mem h hy ((srt_mem litC_cmp x y).1 h1))
      rw [h3.1] at h2
      refine List.any_eq_true.2 ?_
      cases hx : f x with
      | true => exact ⟨x, h1, hx⟩
      | false => exact ⟨-x, h2, by rw [hf x h3.2.1, hx]; rfl⟩
  · intro H z hz
    obtain ⟨⟨y, hy, rfl⟩, _⟩ := canL_mem.1 hz
    rw [srtL_any]
    exact H y hy
set_option maxRecDepth 100000 in
set_option maxHeartbeats 1000000 in
theorem plain_any (cs : List Cl) (A : Option Addr) (ca : Nat) (w : World) (hx : LL w w.heap.size A cs) (hlx : cs.length ≤ 1000000) (hcx : ∀ c ∈ cs, c.zs.length ≤ 1000000) :
    Calls Try.prog 18 #[.slice A cs.length ca, .int .i64 6] w fun e w' => e = .returned (.bool (plL (ct cs))) ∧ w = w' := by
  have HX := Lib.hid hx
  have HCX := Lib.hid hcx
  obtain ⟨n, hn⟩ : ∃ n, Hid (cs.length = n) := ⟨_, Lib.hid rfl⟩
  obtain ⟨e, he⟩ : ∃ e, Hid (plL (ct cs) = e) := ⟨_, Lib.hid rfl⟩
  have H0 : Hid (e = plL ((ct cs).drop 0)) := Lib.hid (by rw [← he.out]; rfl)
  rw [hn.out] at hlx ⊢
  rw [he.out]
  clear hx he hcx
  go_enter Try.func18, Try.ntmps18
  go_wp2_with fail
  go_loop [6, 8, 11] (fun v6 v8 iv => ∃ i : Nat, i ≤ n ∧ iv = .int .i64 i ∧ Hid (e = plL ((ct cs).drop i))) (fun _ _ iv => n - (intOf iv).toNat)
  case atStart => exact ⟨0, Nat.zero_le _, rfl, H0⟩
  case round =>
    clear H0
    obtain ⟨i, hi, rfl, H1⟩ := hrel
    by_cases hlt : i < n
    · obtain ⟨b, off, c, rfl, hb, c0, hci, zc⟩ := HX.out.at_ (show i < cs.length by rw [hn.out]; exact hlt)
      have hcl := HCX.out c (List.mem_of_getElem? hci)
      obtain ⟨d, hd⟩ : ∃ d, Hid (c.zs.length = d) := ⟨_, Lib.hid rfl⟩
      rw [hd.out] at c0 hcl
      have HZ := Lib.hid zc
      have H2 : Hid (e = ((c.zs.drop 0).all pl6 && plL ((ct cs).drop (i + 1)))) := Lib.hid (by
        rw [H1.out, drop_cons_ (l := ct cs) (i := i) (x := c.zs) (by rw [List.getElem?_map, hci]; rfl)]; rfl)
      clear H1 hci zc
      go_wp2_with fail
      clear c0
      go_loop [8, 17] (fun v8 jv => ∃ j : Nat, j ≤ d ∧ jv = .int .i64 j ∧ Hid (e = ((c.zs.drop j).all pl6 && plL ((ct cs).drop (i + 1))))) (fun _ jv => d - (intOf jv).toNat)
      case atStart => exact ⟨0, Nat.zero_le _, rfl, H2⟩
      case round =>
        clear H2
        obtain ⟨j, hj, rfl, H3⟩ := hrel
        by_cases hjm : j < d
        · obtain ⟨b2, off2, x, hax, hb2, c1, hxi, rx⟩ := HZ.out.at_ (show j < c.zs.length by rw [hd.out]; exact hjm)
          rw [hax]
          have H4 : Hid (e = (pl6 x && ((c.zs.drop (j + 1)).all pl6 && plL ((ct cs).drop (i + 1))))) := Lib.hid (by
            rw [H3.out, drop_cons_ hxi, List.all_cons, Bool.and_assoc])
          have HM := Lib.hid (fun W => lmag_any x rx W)
          clear H3 hxi rx hax
          by_cases h0 : x = 0
          · have he0 : e = false := by rw [H4.out]; unfold pl6; rw [h0]; rfl
            subst he0
            have q0 : (x == 0) = true := by rw [h0]; rfl
            clear H4 HM h0
            go_wp2_with fail
            go_ret
            exact ⟨rfl, rfl⟩
          · have q0 : (x == 0) = false := by rw [beq_eq_false_iff_ne]; exact h0
            have HP : Hid (pl6 x = decide (x.natAbs ≤ 6)) := Lib.hid (by unfold pl6; rw [decide_eq_true h0]; rfl)
            obtain ⟨m, hm⟩ : ∃ m, Hid (x.natAbs = m) := ⟨_, Lib.hid rfl⟩
            rw [hm.out] at HM HP
            clear hm h0
            by_cases h6 : m ≤ 6
            · have H5 : Hid (e = ((c.zs.drop (j + 1)).all pl6 && plL ((ct cs).drop (i + 1)))) := Lib.hid (by rw [H4.out, HP.out, decide_eq_true h6]; rfl)
              have h7 : ¬ (6 : Int) < (m : Int) := by omega
              clear H4 HP
              go_wp2_with fail
              refine (HM.out _).mono ?_
              rintro r w2 ⟨rfl, rfl⟩
              clear HM
              go_wp2_with fail
              go_round
              case rel => exact ⟨j + 1, by omega, by go_num, H5⟩
              case measure => simp [intOf]; omega
            · have he0 : e = false := by rw [H4.out, HP.out, decide_eq_false h6]; rfl
              subst he0
              have h7 : (6 : Int) < (m : Int) := by omega
              clear H4 HP
              go_wp2_with fail
              refine (HM.out _).mono ?_
              rintro r w2 ⟨rfl, rfl⟩
              clear HM
              go_wp2_with fail
              go_ret
              exact ⟨rfl, rfl⟩
        · obtain rfl : j = d := by omega
          have H5 : Hid (e = plL ((ct cs).drop (i + 1))) := Lib.hid (by rw [H3.out, List.drop_of_length_le (by rw [hd.out]; exact Nat.le_refl _)]; rfl)
          clear H3 HZ
          go_wp2_with fail
          go_round
          case rel => exact ⟨i + 1, by omega, by go_num, H5⟩
          case measure => simp [intOf]; omega
    · obtain rfl : i = n := by omega
      have he1 : e = true := by
        rw [H1.out, List.drop_of_length_le (by rw [List.length_map, hn.out]; exact Nat.le_refl _)]; rfl
      subst he1
      clear H1 HX
      go_wp2_with fail
      go_ret
      exact ⟨rfl, rfl⟩
end Go.Proofs.Ytdbboeknknlolaa
