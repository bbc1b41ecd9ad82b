/- Walks: comparisons of clauses; equality of clauses and of lists of clauses. -/
import Derived.Test.YtdbboeknknlolaaW1
namespace Go.Proofs.Ytdbboeknknlolaa
open Go.RowKit Go.Sort
set_option linter.unusedVariables false

theorem drop_cons_ {α : Type} {l : List α} {i : Nat} {x : α} (h : l[i]? = some x) : l.drop i = x :: l.drop (i + 1) := by
  obtain ⟨hi, rfl⟩ := List.getElem?_eq_some_iff.1 h
  exact List.drop_eq_getElem_cons hi
set_option maxRecDepth 100000 in
set_option maxHeartbeats 1000000 in
theorem cmpfC_any (xs ys : List Int) (A B : Option Addr) (ca cb : Nat) (w : World) (hx : Zs w w.heap.size A xs) (hy : Zs w w.heap.size B ys) (hlx : xs.length ≤ 1000000) (hly : ys.length ≤ 1000000) :
    Calls Try.prog 57 #[.slice A xs.length ca, .slice B ys.length cb, .func (.func 50) #[] #[]] w fun e w' => e = .returned (.int .i64 (clC xs ys)) ∧ Gro w w' := by
  have X := Gro.refl w
  have HX := Lib.hid (fun W (h : Gro w W) => hx.at h.bel)
  have HY := Lib.hid (fun W (h : Gro w W) => hy.at h.bel)
  obtain ⟨z, hz⟩ : ∃ z, Hid (clC xs ys = z) := ⟨_, Lib.hid rfl⟩
  have H0 : Hid (clC (xs.drop 0) (ys.drop 0) = z) := hz
  obtain ⟨n, hn⟩ : ∃ n, Hid (xs.length = n) := ⟨_, Lib.hid rfl⟩
  obtain ⟨m, hm⟩ : ∃ m, Hid (ys.length = m) := ⟨_, Lib.hid rfl⟩
  rw [hz.out]
  rw [hn.out] at hlx ⊢
  rw [hm.out] at hly ⊢
  clear hz hx hy
  go_enter Try.func57, Try.ntmps57
  go_wp2_with fail
  go_loopw [7, 8, 9, 10, 13] (fun v7 v8 v9 v10 iv wr => ∃ i : Nat, i ≤ n ∧ i ≤ m ∧ iv = .int .i64 i ∧ Hid (clC (xs.drop i) (ys.drop i) = z) ∧ Gro w wr) (fun _ _ _ _ iv _ => n - (intOf iv).toNat)
  case atStart => exact ⟨0, Nat.zero_le _, Nat.zero_le _, rfl, H0, X⟩
  case round =>
    clear X H0
    obtain ⟨i, hi, him, rfl, hz, Y⟩ := hrel
    by_cases hlt : i < n
    · obtain ⟨b, off, x, rfl, hb, c0, hxi, rx⟩ := (HX.out _ Y).at_ (show i < xs.length by rw [hn.out]; exact hlt)
      by_cases hlm : i < m
      · obtain ⟨b2, off2, y, rfl, hb2, c1, hyi, ry⟩ := (HY.out _ Y).at_ (show i < ys.length by rw [hm.out]; exact hlm)
        have HC := Lib.hid (fun W => lit_any x y rx ry W)
        have hz2 : (if litC x y ≠ 0 then litC x y else clC (xs.drop (i + 1)) (ys.drop (i + 1))) = z := by
          rw [← hz.out, drop_cons_ hxi, drop_cons_ hyi]; rfl
        obtain ⟨c, hc⟩ : ∃ c, Hid (litC x y = c) := ⟨_, Lib.hid rfl⟩
        rw [hc.out] at HC hz2
        have HZ := Lib.hid hz2
        clear hz hz2 hc hxi hyi rx ry
        go_wp2_with fail
        refine (HC.out _).mono ?_
        rintro r w2 ⟨rfl, g2⟩
        have Y2 := Y.trans g2
        clear c0 c1 HC Y g2
        by_cases h0 : c = 0
        · have q0 : (c != 0) = false := by simpa using h0
          have HZ2 : Hid (clC (xs.drop (i + 1)) (ys.drop (i + 1)) = z) := Lib.hid (by rw [← HZ.out, if_neg (by rw [h0]; simp)])
          clear HZ h0
          go_wp2_with fail
          go_roundw
          case rel => exact ⟨i + 1, by omega, by omega, by go_num, HZ2, Y2⟩
          case measure => simp [intOf]; omega
        · have q0 : (c != 0) = true := by simpa using h0
          have hcz : c = z := by rw [← HZ.out, if_pos h0]
          subst hcz
          clear HZ h0
          go_wp2_with fail
          go_ret
          exact ⟨rfl, Y2⟩
      · obtain rfl : i = m := by omega
        have hz1 : z = 1 := by
          rw [← hz.out, drop_cons_ hxi, List.drop_of_length_le (l := ys) (by rw [hm.out]; exact Nat.le_refl _)]; rfl
        subst hz1
        clear hz hxi rx
        go_wp2_with fail
        go_ret
        exact ⟨rfl, Y⟩
    · obtain rfl : i = n := by omega
      by_cases hlm : i < m
      · obtain ⟨b2, off2, y, _, hb2, c1, hyi, ry⟩ := (HY.out _ Y).at_ (show i < ys.length by rw [hm.out]; exact hlm)
        have hz1 : z = -1 := by
          rw [← hz.out, drop_cons_ hyi, List.drop_of_length_le (l := xs) (by rw [hn.out]; exact Nat.le_refl _)]; rfl
        subst hz1
        clear hz hyi ry c1
        go_wp2_with fail
        go_ret
        exact ⟨rfl, Y⟩
      · obtain rfl : i = m := by omega
        have hz1 : z = 0 := by
          rw [← hz.out, List.drop_of_length_le (l := xs) (by rw [hn.out]; exact Nat.le_refl _), List.drop_of_length_le (l := ys) (by rw [hm.out]; exact Nat.le_refl _)]; rfl
        subst hz1
        clear hz
        go_wp2_with fail
        go_ret
        exact ⟨rfl, Y⟩
theorem cmpfC_top (xs ys : List Int) (A B : Option Addr) (ca cb : Nat) (w : World) (hx : Zs w w.heap.size A xs) (hy : Zs w w.heap.size B ys) (hlx : xs.length ≤ 1000000) (hly : ys.length ≤ 1000000) :
    Calls Try.prog 53 #[.slice A xs.length ca, .slice B ys.length cb] w fun e w' => e = .returned (.int .i64 (clC xs ys)) ∧ Gro w w' := by
  have HC := Lib.hid (cmpfC_any xs ys A B ca cb w hx hy hlx hly)
  obtain ⟨z, hz⟩ : ∃ z, Hid (clC xs ys = z) := ⟨_, Lib.hid rfl⟩
  rw [hz.out] at HC ⊢
  clear hx hy hz
  go_enter Try.func53, Try.ntmps53
  go_wp2_with fail
  refine HC.out.mono ?_
  rintro r w2 ⟨rfl, g2⟩
  clear HC
  go_wp2_with fail
  go_ret
  exact ⟨rfl, g2⟩
set_option maxRecDepth 100000 in
set_option maxHeartbeats 1000000 in
theorem cmpfL_any (xs ys : List Int) (A B : Option Addr) (ca cb : Nat) (w : World) (hx : Zs w w.heap.size A xs) (hy : Zs w w.heap.size B ys) (hlx : xs.length ≤ 1000000) (hly : ys.length ≤ 1000000) :
    Calls Try.prog 57 #[.slice A xs.length ca, .slice B ys.length cb, .func (.func 32) #[] #[]] w fun e w' => e = .returned (.int .i64 (clC xs ys)) ∧ Dr w w' := by
  have X := Dr.refl w
  have HX := Lib.hid (fun W (h : Dr w W) => hx.at h.bel)
  have HY := Lib.hid (fun W (h : Dr w W) => hy.at h.bel)
  obtain ⟨z, hz⟩ : ∃ z, Hid (clC xs ys = z) := ⟨_, Lib.hid rfl⟩
  have H0 : Hid (clC (xs.drop 0) (ys.drop 0) = z) := hz
  obtain ⟨n, hn⟩ : ∃ n, Hid (xs.length = n) := ⟨_, Lib.hid rfl⟩
  obtain ⟨m, hm⟩ : ∃ m, Hid (ys.length = m) := ⟨_, Lib.hid rfl⟩
  rw [hz.out]
  rw [hn.out] at hlx ⊢
  rw [hm.out] at hly ⊢
  clear hz hx hy
  go_enter Try.func57, Try.ntmps57
  go_wp2_with fail
  go_loopw [7, 8, 9, 10, 13] (fun v7 v8 v9 v10 iv wr => ∃ i : Nat, i ≤ n ∧ i ≤ m ∧ iv = .int .i64 i ∧ Hid (clC (xs.drop i) (ys.drop i) = z) ∧ Dr w wr) (fun _ _ _ _ iv _ => n - (intOf iv).toNat)
  case atStart => exact ⟨0, Nat.zero_le _, Nat.zero_le _, rfl, H0, X⟩
  case round =>
    clear X H0
    obtain ⟨i, hi, him, rfl, hz, Y⟩ := hrel
    by_cases hlt : i < n
    · obtain ⟨b, off, x, rfl, hb, c0, hxi, rx⟩ := (HX.out _ Y).at_ (show i < xs.length by rw [hn.out]; exact hlt)
      by_cases hlm : i < m
      · obtain ⟨b2, off2, y, rfl, hb2, c1, hyi, ry⟩ := (HY.out _ Y).at_ (show i < ys.length by rw [hm.out]; exact hlm)
        have HC := Lib.hid (fun W => llit_any x y rx ry W)
        have hz2 : (if litC x y ≠ 0 then litC x y else clC (xs.drop (i + 1)) (ys.drop (i + 1))) = z := by
          rw [← hz.out, drop_cons_ hxi, drop_cons_ hyi]; rfl
        obtain ⟨c, hc⟩ : ∃ c, Hid (litC x y = c) := ⟨_, Lib.hid rfl⟩
        rw [hc.out] at HC hz2
        have HZ := Lib.hid hz2
        clear hz hz2 hc hxi hyi rx ry
        go_wp2_with fail
        refine (HC.out _).mono ?_
        rintro r w2 ⟨rfl, g2⟩
        have Y2 := Y.trans g2
        clear c0 c1 HC Y g2
        by_cases h0 : c = 0
        · have q0 : (c != 0) = false := by simpa using h0
          have HZ2 : Hid (clC (xs.drop (i + 1)) (ys.drop (i + 1)) = z) := Lib.hid (by rw [← HZ.out, if_neg (by rw [h0]; simp)])
          clear HZ h0
          go_wp2_with fail
          go_roundw
          case rel => exact ⟨i + 1, by omega, by omega, by go_num, HZ2, Y2⟩
          case measure => simp [intOf]; omega
        · have q0 : (c != 0) = true := by simpa using h0
          have hcz : c = z := by rw [← HZ.out, if_pos h0]
          subst hcz
          clear HZ h0
          go_wp2_with fail
          go_ret
          exact ⟨rfl, Y2⟩
      · obtain rfl : i = m := by omega
        have hz1 : z = 1 := by
          rw [← hz.out, drop_cons_ hxi, List.drop_of_length_le (l := ys) (by rw [hm.out]; exact Nat.le_refl _)]; rfl
        subst hz1
        clear hz hxi rx
        go_wp2_with fail
        go_ret
        exact ⟨rfl, Y⟩
    · obtain rfl : i = n := by omega
      by_cases hlm : i < m
      · obtain ⟨b2, off2, y, _, hb2, c1, hyi, ry⟩ := (HY.out _ Y).at_ (show i < ys.length by rw [hm.out]; exact hlm)
        have hz1 : z = -1 := by
          rw [← hz.out, drop_cons_ hyi, List.drop_of_length_le (l := xs) (by rw [hn.out]; exact Nat.le_refl _)]; rfl
        subst hz1
        clear hz hyi ry c1
        go_wp2_with fail
        go_ret
        exact ⟨rfl, Y⟩
      · obtain rfl : i = m := by omega
        have hz1 : z = 0 := by
          rw [← hz.out, List.drop_of_length_le (l := xs) (by rw [hn.out]; exact Nat.le_refl _), List.drop_of_length_le (l := ys) (by rw [hm.out]; exact Nat.le_refl _)]; rfl
        subst hz1
        clear hz
        go_wp2_with fail
        go_ret
        exact ⟨rfl, Y⟩
theorem cmpfL_top (xs ys : List Int) (A B : Option Addr) (ca cb : Nat) (w : World) (hx : Zs w w.heap.size A xs) (hy : Zs w w.heap.size B ys) (hlx : xs.length ≤ 1000000) (hly : ys.length ≤ 1000000) :
    Calls Try.prog 35 #[.slice A xs.length ca, .slice B ys.length cb] w fun e w' => e = .returned (.int .i64 (clC xs ys)) ∧ Dr w w' := by
  have HC := Lib.hid (cmpfL_any xs ys A B ca cb w hx hy hlx hly)
  obtain ⟨z, hz⟩ : ∃ z, Hid (clC xs ys = z) := ⟨_, Lib.hid rfl⟩
  rw [hz.out] at HC ⊢
  clear hx hy hz
  go_enter Try.func35, Try.ntmps35
  go_wp2_with fail
  refine HC.out.mono ?_
  rintro r w2 ⟨rfl, g2⟩
  clear HC
  go_wp2_with fail
  go_ret
  exact ⟨rfl, g2⟩
/-- equality by the law's comparison -/
theorem leq_any (xs ys : List Int) (A B : Option Addr) (ca cb : Nat) (w : World) (hx : Zs w w.heap.size A xs) (hy : Zs w w.heap.size B ys) (hlx : xs.length ≤ 1000000) (hly : ys.length ≤ 1000000) :
    Calls Try.prog 37 #[.slice A xs.length ca, .slice B ys.length cb] w fun e w' => e = .returned (.bool (decide (xs = ys))) ∧ Dr w w' := by
  have HC := Lib.hid (cmpfL_top xs ys A B ca cb w hx hy hlx hly)
  have HE : Hid ((clC xs ys == 0) = decide (xs = ys)) := Lib.hid (by
    by_cases h : xs = ys
    · rw [(clC_cmp.zero xs ys).2 h, decide_eq_true h]; rfl
    · rw [decide_eq_false h, beq_eq_false_iff_ne]; exact fun e => h ((clC_cmp.zero xs ys).1 e))
  obtain ⟨z, hz⟩ : ∃ z, Hid (clC xs ys = z) := ⟨_, Lib.hid rfl⟩
  obtain ⟨e, he⟩ : ∃ e, Hid (decide (xs = ys) = e) := ⟨_, Lib.hid rfl⟩
  rw [hz.out] at HC HE
  rw [he.out] at HE ⊢
  have q := HE.out
  clear hx hy hz he HE
  go_enter Try.func37, Try.ntmps37
  go_wp2_with fail
  refine HC.out.mono ?_
  rintro r w2 ⟨rfl, g2⟩
  clear HC
  go_wp2_with fail
  go_ret
  exact ⟨rfl, g2⟩
set_option maxRecDepth 100000 in
set_option maxHeartbeats 1000000 in
theorem seq_any (xs ys : List Int) (A B : Option Addr) (ca cb : Nat) (w : World) (hx : Zs w w.heap.size A xs) (hy : Zs w w.heap.size B ys) (hlx : xs.length ≤ 1000000) (hly : ys.length ≤ 1000000) :
    Calls Try.prog 24 #[.slice A xs.length ca, .slice B ys.length cb] w fun e w' => e = .returned (.bool (decide (xs = ys))) ∧ Dr w w' := by
  have X := Dr.refl w
  have HX := Lib.hid (fun W (h : Dr w W) => hx.at h.bel)
  have HY := Lib.hid (fun W (h : Dr w W) => hy.at h.bel)
  obtain ⟨e, he⟩ : ∃ e, Hid (decide (xs = ys) = e) := ⟨_, Lib.hid rfl⟩
  have H0 : Hid (decide (xs.drop 0 = ys.drop 0) = e) := he
  obtain ⟨n, hn⟩ : ∃ n, Hid (xs.length = n) := ⟨_, Lib.hid rfl⟩
  obtain ⟨m, hm⟩ : ∃ m, Hid (ys.length = m) := ⟨_, Lib.hid rfl⟩
  rw [he.out]
  rw [hn.out] at hlx ⊢
  rw [hm.out] at hly ⊢
  clear hx hy
  by_cases hnm : n = m
  case neg =>
    have he0 : e = false := by rw [← he.out, decide_eq_false]; rintro rfl; exact hnm (hn.out.symm.trans hm.out)
    have q : ((n : Int) != (m : Int)) = true := by simp; omega
    subst he0
    clear HX HY H0 he hnm
    go_enter Try.func24, Try.ntmps24
    go_wp2_with fail
    go_ret
    exact ⟨rfl, X⟩
  subst hnm
  clear he
  go_enter Try.func24, Try.ntmps24
  go_wp2_with fail
  go_loopw [13] (fun iv wr => ∃ i : Nat, i ≤ n ∧ iv = .int .i64 i ∧ Hid (decide (xs.drop i = ys.drop i) = e) ∧ Dr w wr) (fun iv _ => n - (intOf iv).toNat)
  case atStart => exact ⟨0, Nat.zero_le _, rfl, H0, X⟩
  case round =>
    clear X H0
    obtain ⟨i, hi, rfl, he, Y⟩ := hrel
    by_cases hlt : i < n
    · obtain ⟨b, off, x, rfl, hb, c0, hxi, rx⟩ := (HX.out _ Y).at_ (show i < xs.length by rw [hn.out]; exact hlt)
      obtain ⟨b2, off2, y, rfl, hb2, c1, hyi, ry⟩ := (HY.out _ Y).at_ (show i < ys.length by rw [hm.out]; exact hlt)
      by_cases hxy : x = y
      · have HE : Hid (decide (xs.drop (i + 1) = ys.drop (i + 1)) = e) := Lib.hid (by rw [← he.out, drop_cons_ hxi, drop_cons_ hyi, hxy]; simp)
        subst hxy
        have q : (x != x) = false := by simp
        clear he hxi hyi rx ry
        go_wp2_with fail
        go_quiet (fail)
        go_wp2_with fail
        go_roundw
        case rel => exact ⟨i + 1, by omega, by go_num, HE, Y.trans (Dr.dr _ _)⟩
        case measure => simp [intOf]; omega
      · have he0 : e = false := by
          rw [← he.out, drop_cons_ hxi, drop_cons_ hyi, decide_eq_false]
          intro h
          injection h with h1 _
          exact hxy h1
        have q : (x != y) = true := by simpa using hxy
        subst he0
        clear he hxi hyi rx ry hxy
        go_wp2_with fail
        go_quiet (fail)
        go_wp2_with fail
        go_ret
        exact ⟨rfl, Y.trans (Dr.dr _ _)⟩
    · obtain rfl : i = n := by omega
      have he1 : e = true := by
        rw [← he.out, List.drop_of_length_le (l := xs) (by rw [hn.out]; exact Nat.le_refl _), List.drop_of_length_le (l := ys) (by rw [hm.out]; exact Nat.le_refl _)]; rfl
      subst he1
      clear he
      go_wp2_with fail
      go_ret
      exact ⟨rfl, Y⟩
set_option maxRecDepth 100000 in
set_option maxHeartbeats 1000000 in
theorem eqf_any (cs ds : List Cl) (A B : Option Addr) (ca cb : Nat) (w : World) (hx : LL w w.heap.size A cs) (hy : LL w w.heap.size B ds) (hlx : cs.length ≤ 1000000) (hly : ds.length ≤ 1000000) (hcx : ∀ c ∈ cs, c.zs.length ≤ 1000000) (hcy : ∀ c ∈ ds, c.zs.length ≤ 1000000) :
    Calls Try.prog 38 #[.slice A cs.length ca, .slice B ds.length cb, .func (.func 24) #[] #[]] w fun e w' => e = .returned (.bool (decide (ct cs = ct ds))) ∧ Dr w w' := by
  have X := Dr.refl w
  have HX := Lib.hid (fun W (h : Dr w W) => hx.at h.bel)
  have HY := Lib.hid (fun W (h : Dr w W) => hy.at h.bel)
  obtain ⟨e, he⟩ : ∃ e, Hid (decide (ct cs = ct ds) = e) := ⟨_, Lib.hid rfl⟩
  have H0 : Hid (decide (ct (cs.drop 0) = ct (ds.drop 0)) = e) := he
  obtain ⟨n, hn⟩ : ∃ n, Hid (cs.length = n) := ⟨_, Lib.hid rfl⟩
  obtain ⟨m, hm⟩ : ∃ m, Hid (ds.length = m) := ⟨_, Lib.hid rfl⟩
  have HCX := Lib.hid hcx
  have HCY := Lib.hid hcy
  rw [he.out]
  rw [hn.out] at hlx ⊢
  rw [hm.out] at hly ⊢
  clear hx hy hcx hcy
  by_cases hnm : n = m
  case neg =>
    have he0 : e = false := by
      rw [← he.out, decide_eq_false]
      intro h
      have := congrArg List.length h
      rw [List.length_map, List.length_map, hn.out, hm.out] at this
      exact hnm this
    have q : ((n : Int) != (m : Int)) = true := by simp; omega
    subst he0
    clear HX HY H0 he hnm
    go_enter Try.func38, Try.ntmps38
    go_wp2_with fail
    go_ret
    exact ⟨rfl, X⟩
  subst hnm
  clear he
  go_enter Try.func38, Try.ntmps38
  go_wp2_with fail
  go_loopw [7, 8, 9, 17] (fun v7 v8 v9 iv wr => ∃ i : Nat, i ≤ n ∧ iv = .int .i64 i ∧ Hid (decide (ct (cs.drop i) = ct (ds.drop i)) = e) ∧ Dr w wr) (fun _ _ _ iv _ => n - (intOf iv).toNat)
  case atStart => exact ⟨0, Nat.zero_le _, rfl, H0, X⟩
  case round =>
    clear X H0
    obtain ⟨i, hi, rfl, he, Y⟩ := hrel
    by_cases hlt : i < n
    · obtain ⟨b, off, x, rfl, hb, c0, hxi, zx⟩ := (HX.out _ Y).at_ (show i < cs.length by rw [hn.out]; exact hlt)
      obtain ⟨b2, off2, y, rfl, hb2, c1, hyi, zy⟩ := (HY.out _ Y).at_ (show i < ds.length by rw [hm.out]; exact hlt)
      have HC := Lib.hid (seq_any x.zs y.zs x.ad y.ad x.cap y.cap _ (zx.more (by exact Nat.le_refl _)) (zy.more (by exact Nat.le_refl _)) (HCX.out x (List.mem_of_getElem? hxi)) (HCY.out y (List.mem_of_getElem? hyi)))
      have HE0 : Hid ((decide (x.zs = y.zs) && decide (ct (cs.drop (i + 1)) = ct (ds.drop (i + 1)))) = e) := Lib.hid (by
        rw [← he.out, drop_cons_ hxi, drop_cons_ hyi]
        unfold ct
        rw [List.map_cons, List.map_cons]
        by_cases h : x.zs = y.zs
        · simp [h]
        · simp [h])
      obtain ⟨q, hq⟩ : ∃ q, Hid (decide (x.zs = y.zs) = q) := ⟨_, Lib.hid rfl⟩
      rw [hq.out] at HC HE0
      clear he hxi hyi zx zy hq
      go_wp2_with fail
      refine HC.out.mono ?_
      rintro r w2 ⟨rfl, g2⟩
      have Y2 := Y.trans g2
      clear c0 c1 HC Y g2
      cases q with
      | true =>
        have HE : Hid (decide (ct (cs.drop (i + 1)) = ct (ds.drop (i + 1))) = e) := Lib.hid (by rw [← HE0.out, Bool.true_and])
        clear HE0
        go_wp2_with fail
        go_roundw
        case rel => exact ⟨i + 1, by omega, by go_num, HE, Y2⟩
        case measure => simp [intOf]; omega
      | false =>
        have he0 : e = false := by rw [← HE0.out, Bool.false_and]
        subst he0
        clear HE0
        go_wp2_with fail
        go_ret
        exact ⟨rfl, Y2⟩
    · obtain rfl : i = n := by omega
      have he1 : e = true := by
        rw [← he.out, List.drop_of_length_le (l := cs) (by rw [hn.out]; exact Nat.le_refl _), List.drop_of_length_le (l := ds) (by rw [hm.out]; exact Nat.le_refl _)]; rfl
      subst he1
      clear he
      go_wp2_with fail
      go_ret
      exact ⟨rfl, Y⟩
/-- the law's Equal -/
theorem equal_any (cs ds : List Cl) (A B : Option Addr) (ca cb : Nat) (w : World) (hx : LL w w.heap.size A cs) (hy : LL w w.heap.size B ds) (hlx : cs.length ≤ 1000000) (hly : ds.length ≤ 1000000) (hcx : ∀ c ∈ cs, c.zs.length ≤ 1000000) (hcy : ∀ c ∈ ds, c.zs.length ≤ 1000000) :
    Calls Try.prog 14 #[.slice A cs.length ca, .slice B ds.length cb] w fun e w' => e = .returned (.bool (decide (ct cs = ct ds))) ∧ Dr w w' := by
  have HC := Lib.hid (eqf_any cs ds A B ca cb w hx hy hlx hly hcx hcy)
  obtain ⟨e, he⟩ : ∃ e, Hid (decide (ct cs = ct ds) = e) := ⟨_, Lib.hid rfl⟩
  rw [he.out] at HC ⊢
  clear hx hy he hcx hcy
  go_enter Try.func14, Try.ntmps14
  go_wp2_with fail
  refine HC.out.mono ?_
  rintro r w2 ⟨rfl, g2⟩
  clear HC
  go_wp2_with fail
  go_ret
  exact ⟨rfl, g2⟩
end Go.Proofs.Ytdbboeknknlolaa
