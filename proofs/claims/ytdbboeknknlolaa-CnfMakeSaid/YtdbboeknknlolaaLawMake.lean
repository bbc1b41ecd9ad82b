/- The law CnfMake, walked. -/
import Derived.Test.YtdbboeknknlolaaWx
import Derived.Test.YtdbboeknknlolaaWh
import Derived.Test.YtdbboeknknlolaaW8
namespace Go.Proofs.Ytdbboeknknlolaa
open Go.RowKit Go.Sort
set_option linter.unusedVariables false

set_option maxRecDepth 100000 in
set_option maxHeartbeats 8000000 in
theorem make_walk (cs : List Cl) (A : Option Addr) (ca : Nat) (v k : Int) (w : World) (hx : LL w w.heap.size A cs) :
    Calls Try.prog 4 #[.int .i64 v, .int .i64 k, .slice A cs.length ca] w fun e w' => e = .returned (.bool true) ∧ Below w.heap.size w w' := by
  obtain ⟨n, hn⟩ : ∃ n, Hid (cs.length = n) := ⟨_, Lib.hid rfl⟩
  obtain ⟨f, hf⟩ : ∃ f, Hid (fewL (ct cs) 60 300 = f) := ⟨_, Lib.hid rfl⟩
  have HX := Lib.hid (fun W (h : Below w.heap.size w W) => hx.at h)
  have HF := Lib.hid (fun W (h : Below w.heap.size w W) => show Calls Try.prog 10 #[.slice A cs.length ca, .int .i64 60, .int .i64 300] W (fun e w' => e = .returned (.bool (fewL (ct cs) 60 300)) ∧ W = w') from few_any cs A ca 60 300 W (hx.at h) (by omega) (by omega))
  have HC1 := Lib.hid (fun (h60 : cs.length ≤ 60) (hc : ∀ c ∈ cs, (c.zs.length : Int) ≤ 300) W (h : Below w.heap.size w W) => lcanonical_any cs A ca W (hx.at h) (by omega) (fun c h' => by have := hc c h'; omega))
  have HC2 := Lib.hid (fun (h60 : cs.length ≤ 60) (hc : ∀ c ∈ cs, (c.zs.length : Int) ≤ 300) W (h : Below w.heap.size w W) => canonical_any cs A ca W (hx.at h) (by omega) (fun c h' => by have := hc c h'; omega))
  have HC3 := Lib.hid (fun (h60 : cs.length ≤ 60) (hc : ∀ c ∈ cs, (c.zs.length : Int) ≤ 300) W (h : Below w.heap.size w W) => make_any cs A ca v k W (hx.at h) (by omega) (fun c h' => by have := hc c h'; omega))
  rw [hf.out] at HF
  rw [hn.out] at HF HC1 HC2 HC3 ⊢
  clear hx
  go_enter Try.func4, Try.ntmps4
  go_wp2_with fail
  refine (known_ok _).mono ?_
  rintro r w1 ⟨rfl, b1⟩
  have HF1 := Lib.hid (HF.out _ b1)
  clear HF
  cases f with
  | false =>
    clear HC1 HC2 HC3
    go_wp2_with fail
    refine HF1.out.mono ?_
    rintro r w2 ⟨rfl, rfl⟩
    clear HF1
    go_wp2_with fail
    go_ret
    exact ⟨rfl, b1⟩
  | true =>
    obtain ⟨hl60, hl300⟩ := fewL_bd (by omega) hf.out
    have hn60 : n ≤ 60 := by have := hn.out; omega
    have HD1 := Lib.hid (HC1.out hn60 hl300 _ b1)
    have HD2 := Lib.hid (HC2.out hn60 hl300)
    have HD3 := Lib.hid (HC3.out hn60 hl300)
    have HL3 := Lib.hid hl300
    unfold NLL at HD1 HD2
    have HEQ := Lib.hid (fun W A1 c1 (ds : List Cl) A2 c2 (es : List Cl) (h1 : ct ds = canL (ct cs)) (h2 : ct es = canL (ct cs)) (l1 : LL W W.heap.size A1 ds) (l2 : LL W W.heap.size A2 es) => show Calls Try.prog 14 #[.slice A1 ds.length c1, .slice A2 es.length c2] W (fun e w' => e = .returned (.bool true) ∧ Dr W w') from by
      have hlen : ∀ ds : List Cl, ct ds = canL (ct cs) → ds.length ≤ 1000000 ∧ ∀ c ∈ ds, c.zs.length ≤ 1000000 := fun ds h1 => by
        constructor
        · have e1 := congrArg List.length h1
          rw [List.length_map] at e1
          have e2 := canL_len_ (ct cs)
          rw [List.length_map] at e2
          omega
        · intro c hc
          have e1 : c.zs ∈ canL (ct cs) := by rw [← h1]; exact List.mem_map_of_mem hc
          obtain ⟨⟨y, hy, e2⟩, _⟩ := canL_mem.1 e1
          obtain ⟨c', hc', rfl⟩ := List.mem_map.1 hy
          rw [← e2]
          have := hl300 c' hc'
          have := srt_len (c := litC) c'.zs
          show (srt litC c'.zs).length ≤ _
          omega
      have := equal_any ds es A1 A2 c1 c2 W l1 l2 (hlen ds h1).1 (hlen es h2).1 (hlen ds h1).2 (hlen es h2).2
      rw [h1, h2] at this
      simpa using this)
    clear HC1 HC2 HC3 hl60 hl300
    go_wp2_with fail
    refine HF1.out.mono ?_
    rintro r w2 ⟨rfl, rfl⟩
    clear HF1
    go_wp2_with fail
    refine HD1.out.mono ?_
    rintro r w2 ⟨A2, c2, ds, rfl, h2, l2, b2⟩
    have b3 := bTrans b1 b2
    have HE2 := Lib.hid (HD2.out _ b3)
    clear HD1 HD2 b2
    go_wp2_with fail
    refine HE2.out.mono ?_
    rintro r w3 ⟨A3, c3, es, rfl, h3, l3, b4⟩
    have HE3 := Lib.hid (HEQ.out w3 A3 c3 es A2 c2 ds h3 h2 l3 (l2.at b4))
    have b5 := bTrans b3 b4
    have l2b := l2.at b4
    clear HE2 l2 b4
    go_wp2_with fail
    refine HE3.out.mono ?_
    rintro r w4 ⟨rfl, d4⟩
    have l2c := l2b.at d4.bel
    have b6 := bTrans b5 d4.bel
    have HE4 := Lib.hid (HD3.out _ b6)
    have H2 := Lib.hid h2
    clear HE3 HD3 l2b l3 h3 d4 b5 h2 b3 b1
    obtain ⟨R, hR⟩ : ∃ R, Hid (mkC v k (ct cs) = R) := ⟨_, Lib.hid rfl⟩
    rw [hR.out] at HE4
    obtain ⟨u, hu⟩ : ∃ u, Hid (wiL v (ct cs) = u) := ⟨_, Lib.hid rfl⟩
    have HR : Hid (R = if v < 0 ∨ k < 0 ∨ v < k then 1 else if 20000 < v then 4 else if u = false then 3 else 0) := Lib.hid (by rw [← hR.out, ← hu.out]; rfl)
    go_wp2_with fail
    refine HE4.out.mono ?_
    rintro r w5 ⟨hmk, b7⟩
    clear HE4
    have l2d := l2c.at b7
    have b8 := bTrans b6 b7
    clear l2c b6 b7
    rcases hmk with ⟨hR0, rfl⟩ | ⟨hR0, A6, c6, gs, rfl, h6, l6⟩
    · have HR0 := Lib.hid hR0
      have B := Blk.new_ w5 #[.int .i64 0, .int .i64 0, .slice none 0 0] 24
      have b9 := bTrans b8 (al1 w5 (.cells #[.int .i64 0, .int .i64 0, .slice none 0 0] 24))
      clear hR0 HEQ l2d b8 hR H2
      go_upto_region 9 with (fail)
      revert B
      revert b9
      generalize w5.alloc (.cells #[.int .i64 0, .int .i64 0, .slice none 0 0] 24) = w6
      intro b9 B
      have d0 := B.c 0 rfl
      have d1 := B.c 1 rfl
      have d2 := B.c 2 rfl
      clear B
      by_cases h1 : v < 0
      · have hr : R = 1 := by rw [HR.out, if_pos (.inl h1)]
        subst hr
        clear HR HR0
        go_wp2_with fail
        go_ret
        exact ⟨rfl, b9⟩
      by_cases h2 : k < 0
      · have hr : R = 1 := by rw [HR.out, if_pos (.inr (.inl h2))]
        subst hr
        clear HR HR0
        go_wp2_with fail
        go_ret
        exact ⟨rfl, b9⟩
      by_cases h3 : v < k
      · have hr : R = 1 := by rw [HR.out, if_pos (.inr (.inr h3))]
        subst hr
        clear HR HR0
        go_wp2_with fail
        go_ret
        exact ⟨rfl, b9⟩
      by_cases h4 : 20000 < v
      · have hr : R = 4 := by rw [HR.out, if_neg (by omega), if_pos h4]
        subst hr
        clear HR HR0
        go_wp2_with fail
        go_ret
        exact ⟨rfl, b9⟩
      have hu0 : u = false := by
        cases u with
        | false => rfl
        | true => exact absurd (by rw [HR.out, if_neg (by omega), if_neg h4]; rfl) HR0.out
      have hr : R = 3 := by rw [HR.out, if_neg (by omega), if_neg h4, hu0]; rfl
      have HU := Lib.hid hu0
      subst hr
      clear HR HR0 hu0
      have hv0 : 0 ≤ v := by omega
      have e1 : IntKind.u64.wrap v = v := by simp [IntKind.wrap, IntKind.bits, IntKind.signed]; omega
      have HXw := Lib.hid (HX.out _ b9)
      have HO : Hid (u = (true && wiL v ((ct cs).drop 0)) ∧ (0 : Int) = if true then 0 else 3) := Lib.hid ⟨by rw [← hu.out]; rfl, rfl⟩
      go_wp2_with fail
      go_loop [10, 12, 14, 36] (fun z10 z12 z14 iv => ∃ (i : Nat) (o : Bool) (z : Int), i ≤ n ∧ iv = .int .i64 i ∧ z10 = .int .i64 z ∧ Hid (u = (o && wiL v ((ct cs).drop i)) ∧ z = if o then 0 else 3)) (fun _ _ _ iv => n - (intOf iv).toNat)
      case atStart => exact ⟨0, true, 0, Nat.zero_le _, rfl, rfl, HO⟩
      case round =>
        clear HO
        obtain ⟨i, o, z, hi, rfl, rfl, H1⟩ := hrel
        by_cases hlt : i < n
        · obtain ⟨b, off, c, rfl, hb, f0, hci, zc⟩ := HXw.out.at_ (show i < cs.length by rw [hn.out]; exact hlt)
          have hcl : c.zs.length ≤ 1000000 := by have := HL3.out c (List.mem_of_getElem? hci); omega
          obtain ⟨d, hd⟩ : ∃ d, Hid (c.zs.length = d) := ⟨_, Lib.hid rfl⟩
          rw [hd.out] at f0 hcl
          have HZ := Lib.hid zc
          have H3 : Hid (u = (o && ((c.zs.drop 0).all (isLit v) && wiL v ((ct cs).drop (i + 1)))) ∧ z = if o then 0 else 3) := Lib.hid ⟨by
            rw [H1.out.1, drop_cons_ (l := ct cs) (i := i) (x := c.zs) (by rw [List.getElem?_map, hci]; rfl)]; rfl, H1.out.2⟩
          clear H1 hci zc
          go_wp2_with fail
          clear f0
          go_loop [10, 14, 42] (fun z10 z14 jv => ∃ (j : Nat) (o : Bool) (z : Int), j ≤ d ∧ jv = .int .i64 j ∧ z10 = .int .i64 z ∧ Hid (u = (o && ((c.zs.drop j).all (isLit v) && wiL v ((ct cs).drop (i + 1)))) ∧ z = if o then 0 else 3)) (fun _ _ jv => d - (intOf jv).toNat)
          case atStart => exact ⟨0, o, z, Nat.zero_le _, rfl, rfl, H3⟩
          case round =>
            clear H3
            obtain ⟨j, o, z, hj, rfl, rfl, H4⟩ := hrel
            by_cases hjm : j < d
            · obtain ⟨b2, off2, x, hax, hb2, f1, hxi, rx⟩ := HZ.out.at_ (show j < c.zs.length by rw [hd.out]; exact hjm)
              rw [hax]
              have H5 : Hid (u = (o && (isLit v x && ((c.zs.drop (j + 1)).all (isLit v) && wiL v ((ct cs).drop (i + 1))))) ∧ z = if o then 0 else 3) := Lib.hid ⟨by
                rw [H4.out.1, drop_cons_ hxi, List.all_cons, Bool.and_assoc], H4.out.2⟩
              have HM := Lib.hid (fun W => lmag_any x rx W)
              clear H4 hxi hax rx
              by_cases h0 : x = 0
              · have H6 : Hid (u = (false && ((c.zs.drop (j + 1)).all (isLit v) && wiL v ((ct cs).drop (i + 1)))) ∧ (3 : Int) = if false then 0 else 3) := Lib.hid ⟨by rw [H5.out.1]; unfold isLit; rw [h0]; simp, rfl⟩
                have q0 : (x == 0) = true := by rw [h0]; rfl
                clear H5 h0 HM
                go_wp2_with fail
                go_round
                case rel => exact ⟨j + 1, false, 3, by omega, by go_num, rfl, H6⟩
                case measure => simp [intOf]; omega
              · have q0 : (x == 0) = false := by rw [beq_eq_false_iff_ne]; exact h0
                have HP : Hid (isLit v x = decide ((x.natAbs : Int) ≤ v)) := Lib.hid (by unfold isLit; rw [decide_eq_true h0]; rfl)
                obtain ⟨m, hm⟩ : ∃ m, Hid (x.natAbs = m) := ⟨_, Lib.hid rfl⟩
                rw [hm.out] at HM HP
                clear hm h0
                by_cases h6 : (m : Int) ≤ v
                · have H6 : Hid (u = (o && ((c.zs.drop (j + 1)).all (isLit v) && wiL v ((ct cs).drop (i + 1)))) ∧ z = if o then 0 else 3) := Lib.hid ⟨by rw [H5.out.1, HP.out, decide_eq_true h6]; rfl, H5.out.2⟩
                  have h7 : ¬ v < (m : Int) := by omega
                  clear H5 HP
                  go_wp2_with fail
                  refine (HM.out _).mono ?_
                  rintro r w7 ⟨rfl, rfl⟩
                  clear HM
                  go_wp2_with fail
                  go_round
                  case rel => exact ⟨j + 1, o, z, by omega, by go_num, rfl, H6⟩
                  case measure => simp [intOf]; omega
                · have H6 : Hid (u = (false && ((c.zs.drop (j + 1)).all (isLit v) && wiL v ((ct cs).drop (i + 1)))) ∧ (3 : Int) = if false then 0 else 3) := Lib.hid ⟨by rw [H5.out.1, HP.out, decide_eq_false h6]; simp, rfl⟩
                  have h7 : v < (m : Int) := by omega
                  clear H5 HP
                  go_wp2_with fail
                  refine (HM.out _).mono ?_
                  rintro r w7 ⟨rfl, rfl⟩
                  clear HM
                  go_wp2_with fail
                  go_round
                  case rel => exact ⟨j + 1, false, 3, by omega, by go_num, rfl, H6⟩
                  case measure => simp [intOf]; omega
            · obtain rfl : j = d := by omega
              have H6 : Hid (u = (o && wiL v ((ct cs).drop (i + 1))) ∧ z = if o then 0 else 3) := Lib.hid ⟨by rw [H4.out.1, List.drop_of_length_le (by rw [hd.out]; exact Nat.le_refl _)]; rfl, H4.out.2⟩
              clear H4 HZ
              go_wp2_with fail
              go_round
              case rel => exact ⟨i + 1, o, z, by omega, by go_num, rfl, H6⟩
              case measure => simp [intOf]; omega
        · obtain rfl : i = n := by omega
          have hou : o = u := by
            rw [H1.out.1, List.drop_of_length_le (by rw [List.length_map, hn.out]; exact Nat.le_refl _)]
            show o = (o && true)
            simp
          have hz := H1.out.2
          rw [hou] at hz
          rw [HU.out] at hz
          have hz3 : z = 3 := hz
          subst hz3
          clear hz hou H1
          go_wp2_with fail
          go_ret
          exact ⟨rfl, b9⟩
    · have hz := HR.out
      rw [hR0] at hz
      have h123 : ¬ (v < 0 ∨ k < 0 ∨ v < k) := fun h => by rw [if_pos h] at hz; omega
      rw [if_neg h123] at hz
      have h4 : ¬ 20000 < v := fun h => by rw [if_pos h] at hz; omega
      rw [if_neg h4] at hz
      have hu1 : u = true := by
        cases u with
        | true => rfl
        | false => rw [if_pos rfl] at hz; omega
      have h1 : ¬ v < 0 := fun h => h123 (.inl h)
      have h2 : ¬ k < 0 := fun h => h123 (.inr (.inl h))
      have h3 : ¬ v < k := fun h => h123 (.inr (.inr h))
      subst hR0
      have HU := Lib.hid hu1
      have HE7 := Lib.hid (fun W (h : Below w5.heap.size w5 W) => HEQ.out W A6 c6 gs A2 c2 ds h6 H2.out (l6.at h) (l2d.at h))
      have B := Blk.new_ w5 #[.int .i64 v, .int .i64 k, .slice A6 gs.length c6] 24
      have b10 := al1 w5 (.cells #[.int .i64 v, .int .i64 k, .slice A6 gs.length c6] 24)
      clear hz h123 hu1 HEQ l2d l6 h6 hR H2 HR
      go_upto_region 9 with (fail)
      revert B
      revert b10
      generalize w5.alloc (.cells #[.int .i64 v, .int .i64 k, .slice A6 gs.length c6] 24) = w6
      intro b10 B
      have b9 := bTrans b8 b10
      have d0 := B.c 0 rfl
      have d1 := B.c 1 rfl
      have d2 := B.c 2 rfl
      have HE8 := Lib.hid (HE7.out _ b10)
      clear B HE7 b8 b10
      have hv0 : 0 ≤ v := by omega
      have e1 : IntKind.u64.wrap v = v := by simp [IntKind.wrap, IntKind.bits, IntKind.signed]; omega
      have HXw := Lib.hid (HX.out _ b9)
      have HO : Hid (u = (true && wiL v ((ct cs).drop 0)) ∧ (0 : Int) = if true then 0 else 3) := Lib.hid ⟨by rw [← hu.out]; rfl, rfl⟩
      go_wp2_with fail
      go_loop [10, 12, 14, 36] (fun z10 z12 z14 iv => ∃ (i : Nat) (o : Bool) (z : Int), i ≤ n ∧ iv = .int .i64 i ∧ z10 = .int .i64 z ∧ Hid (u = (o && wiL v ((ct cs).drop i)) ∧ z = if o then 0 else 3)) (fun _ _ _ iv => n - (intOf iv).toNat)
      case atStart => exact ⟨0, true, 0, Nat.zero_le _, rfl, rfl, HO⟩
      case round =>
        clear HO
        obtain ⟨i, o, z, hi, rfl, rfl, H1⟩ := hrel
        by_cases hlt : i < n
        · obtain ⟨b, off, c, rfl, hb, f0, hci, zc⟩ := HXw.out.at_ (show i < cs.length by rw [hn.out]; exact hlt)
          have hcl : c.zs.length ≤ 1000000 := by have := HL3.out c (List.mem_of_getElem? hci); omega
          obtain ⟨d, hd⟩ : ∃ d, Hid (c.zs.length = d) := ⟨_, Lib.hid rfl⟩
          rw [hd.out] at f0 hcl
          have HZ := Lib.hid zc
          have H3 : Hid (u = (o && ((c.zs.drop 0).all (isLit v) && wiL v ((ct cs).drop (i + 1)))) ∧ z = if o then 0 else 3) := Lib.hid ⟨by
            rw [H1.out.1, drop_cons_ (l := ct cs) (i := i) (x := c.zs) (by rw [List.getElem?_map, hci]; rfl)]; rfl, H1.out.2⟩
          clear H1 hci zc
          go_wp2_with fail
          clear f0
          go_loop [10, 14, 42] (fun z10 z14 jv => ∃ (j : Nat) (o : Bool) (z : Int), j ≤ d ∧ jv = .int .i64 j ∧ z10 = .int .i64 z ∧ Hid (u = (o && ((c.zs.drop j).all (isLit v) && wiL v ((ct cs).drop (i + 1)))) ∧ z = if o then 0 else 3)) (fun _ _ jv => d - (intOf jv).toNat)
          case atStart => exact ⟨0, o, z, Nat.zero_le _, rfl, rfl, H3⟩
          case round =>
            clear H3
            obtain ⟨j, o, z, hj, rfl, rfl, H4⟩ := hrel
            by_cases hjm : j < d
            · obtain ⟨b2, off2, x, hax, hb2, f1, hxi, rx⟩ := HZ.out.at_ (show j < c.zs.length by rw [hd.out]; exact hjm)
              rw [hax]
              have H5 : Hid (u = (o && (isLit v x && ((c.zs.drop (j + 1)).all (isLit v) && wiL v ((ct cs).drop (i + 1))))) ∧ z = if o then 0 else 3) := Lib.hid ⟨by
                rw [H4.out.1, drop_cons_ hxi, List.all_cons, Bool.and_assoc], H4.out.2⟩
              have HM := Lib.hid (fun W => lmag_any x rx W)
              clear H4 hxi hax rx
              by_cases h0 : x = 0
              · have H6 : Hid (u = (false && ((c.zs.drop (j + 1)).all (isLit v) && wiL v ((ct cs).drop (i + 1)))) ∧ (3 : Int) = if false then 0 else 3) := Lib.hid ⟨by rw [H5.out.1]; unfold isLit; rw [h0]; simp, rfl⟩
                have q0 : (x == 0) = true := by rw [h0]; rfl
                clear H5 h0 HM
                go_wp2_with fail
                go_round
                case rel => exact ⟨j + 1, false, 3, by omega, by go_num, rfl, H6⟩
                case measure => simp [intOf]; omega
              · have q0 : (x == 0) = false := by rw [beq_eq_false_iff_ne]; exact h0
                have HP : Hid (isLit v x = decide ((x.natAbs : Int) ≤ v)) := Lib.hid (by unfold isLit; rw [decide_eq_true h0]; rfl)
                obtain ⟨m, hm⟩ : ∃ m, Hid (x.natAbs = m) := ⟨_, Lib.hid rfl⟩
                rw [hm.out] at HM HP
                clear hm h0
                by_cases h6 : (m : Int) ≤ v
                · have H6 : Hid (u = (o && ((c.zs.drop (j + 1)).all (isLit v) && wiL v ((ct cs).drop (i + 1)))) ∧ z = if o then 0 else 3) := Lib.hid ⟨by rw [H5.out.1, HP.out, decide_eq_true h6]; rfl, H5.out.2⟩
                  have h7 : ¬ v < (m : Int) := by omega
                  clear H5 HP
                  go_wp2_with fail
                  refine (HM.out _).mono ?_
                  rintro r w7 ⟨rfl, rfl⟩
                  clear HM
                  go_wp2_with fail
                  go_round
                  case rel => exact ⟨j + 1, o, z, by omega, by go_num, rfl, H6⟩
                  case measure => simp [intOf]; omega
                · have H6 : Hid (u = (false && ((c.zs.drop (j + 1)).all (isLit v) && wiL v ((ct cs).drop (i + 1)))) ∧ (3 : Int) = if false then 0 else 3) := Lib.hid ⟨by rw [H5.out.1, HP.out, decide_eq_false h6]; simp, rfl⟩
                  have h7 : v < (m : Int) := by omega
                  clear H5 HP
                  go_wp2_with fail
                  refine (HM.out _).mono ?_
                  rintro r w7 ⟨rfl, rfl⟩
                  clear HM
                  go_wp2_with fail
                  go_round
                  case rel => exact ⟨j + 1, false, 3, by omega, by go_num, rfl, H6⟩
                  case measure => simp [intOf]; omega
            · obtain rfl : j = d := by omega
              have H6 : Hid (u = (o && wiL v ((ct cs).drop (i + 1))) ∧ z = if o then 0 else 3) := Lib.hid ⟨by rw [H4.out.1, List.drop_of_length_le (by rw [hd.out]; exact Nat.le_refl _)]; rfl, H4.out.2⟩
              clear H4 HZ
              go_wp2_with fail
              go_round
              case rel => exact ⟨i + 1, o, z, by omega, by go_num, rfl, H6⟩
              case measure => simp [intOf]; omega
        · obtain rfl : i = n := by omega
          have hou : o = u := by
            rw [H1.out.1, List.drop_of_length_le (by rw [List.length_map, hn.out]; exact Nat.le_refl _)]
            show o = (o && true)
            simp
          have hz := H1.out.2
          rw [hou] at hz
          rw [HU.out] at hz
          have hz3 : z = 0 := hz
          subst hz3
          clear hz hou H1
          go_wp2_with fail
          refine HE8.out.mono ?_
          rintro r w8 ⟨rfl, d8⟩
          have b11 := bTrans b9 d8.bel
          clear HE8 d0 d1 d2
          go_wp2_with fail
          go_ret
          exact ⟨rfl, b11⟩
end Go.Proofs.Ytdbboeknknlolaa
