/- ContainsFunc with Eval's closure. -/
import Derived.Test.YtdbboeknknlolaaWr
namespace Go.Proofs.Ytdbboeknknlolaa
open Go.RowKit Go.Sort
set_option linter.unusedVariables false

theorem max2 (a b n : Int) (h : n = max a b) (ts : Array TypeId) (t : TypeId) (W : World) : (Builtin.max_ ts t #[.int .i64 a, .int .i64 b]).run Try.prog W = .ok (.int .i64 n) W := by
  have e : ∀ a b : Int, (if a < b then b else a) = max a b := fun a b => by omega
  simp [Builtin.max_, Builtin.max2, List.foldlM, e, go_sem, h]
theorem ev1_any (x : Int) (bs : List Bool) (D : Option Addr) (ic ib : Nat) (w : World) (hl : isLit bs.length x = true) (hN : bs.length ≤ 20000) (hb : Row w w.heap.size D (bvals bs)) (hbox : w.cell? ⟨ib, 0, none⟩ = some (.slice D bs.length ic)) :
    Calls Try.prog 41 (#[.int .i64 x] ++ #[.pointer (some ⟨ib, 0, none⟩)]) w fun e w' => e = .returned (.bool (litB bs x)) ∧ w = w' := by
  obtain ⟨hx0, hx6⟩ := isLit_iff hl
  obtain ⟨m, hm⟩ : ∃ m : Nat, x.natAbs = m + 1 := ⟨x.natAbs - 1, by omega⟩
  obtain ⟨b, o, u, rfl, cu, hu⟩ := bs_at hb (m := m) (by omega)
  have hmx : ∀ ts t W, (Builtin.max_ ts t #[.int .i64 x, .int .i64 (-x)]).run Try.prog W = .ok (.int .i64 ((m : Int) + 1)) W := fun ts t W => max2 x (-x) _ (by omega) ts t W
  have e1 : IntKind.i64.wrap (-x) = -x := IntWalk.i64_in _ (by omega)
  have e2 : IntKind.i64.wrap (m : Int) = (m : Int) := IntWalk.i64_in _ (by omega)
  have e3 : IntKind.i64.wrap ((m : Int) + 1 - 1) = (m : Int) := by rw [IntWalk.i64_in _ (by omega)]; omega
  obtain ⟨N, hNe⟩ : ∃ N, Hid (bs.length = N) := ⟨_, Lib.hid rfl⟩
  have hmN : m < N := by have := hNe.out; omega
  rw [hNe.out] at hbox
  by_cases hpos : 0 < x
  · have he : Hid (litB bs x = u) := Lib.hid (by unfold litB; rw [if_pos hpos, show (x - 1).toNat = m by omega]; exact hu)
    clear hl hb hu hx0 hx6 hm hN
    show Calls Try.prog 41 #[.int .i64 x, .pointer (some ⟨ib, 0, none⟩)] w _
    go_enter Try.func41, Try.ntmps41
    go_wp2_with fail
    go_ret
    exact ⟨ret_bool (by rw [he.out]), rfl⟩
  · have he : Hid (litB bs x = !u) := Lib.hid (by unfold litB; rw [if_neg hpos, show (-x - 1).toNat = m by omega, hu])
    clear hl hb hu hx0 hx6 hm hN
    show Calls Try.prog 41 #[.int .i64 x, .pointer (some ⟨ib, 0, none⟩)] w _
    go_enter Try.func41, Try.ntmps41
    go_wp2_with fail
    go_ret
    exact ⟨ret_bool (by rw [he.out]), rfl⟩
set_option maxRecDepth 100000 in
set_option maxHeartbeats 1000000 in
theorem evix_any (zs : List Int) (A : Option Addr) (ca : Nat) (bs : List Bool) (D : Option Addr) (ic ib : Nat) (w : World) (hz : Zs w w.heap.size A zs) (hl : zs.length ≤ 1000000) (hp : ∀ x ∈ zs, isLit bs.length x = true) (hN : bs.length ≤ 20000) (hb : Row w w.heap.size D (bvals bs)) (hbox : w.cell? ⟨ib, 0, none⟩ = some (.slice D bs.length ic)) :
    Calls Try.prog 58 #[.slice A zs.length ca, .func (.func 41) #[] #[.pointer (some ⟨ib, 0, none⟩)]] w fun e w' => (∃ z : Int, e = .returned (.int .i64 z) ∧ decide (0 ≤ z) = zs.any (litB bs)) ∧ w = w' := by
  have HX := Lib.hid hz
  have HE := Lib.hid (fun x (h : x ∈ zs) => show Calls Try.prog 41 #[.int .i64 x, .pointer (some ⟨ib, 0, none⟩)] w (fun e w' => e = .returned (.bool (litB bs x)) ∧ w = w') from ev1_any x bs D ic ib w (hp x h) hN hb hbox)
  obtain ⟨n, hn⟩ : ∃ n, Hid (zs.length = n) := ⟨_, Lib.hid rfl⟩
  obtain ⟨e, he⟩ : ∃ e, Hid (zs.any (litB bs) = e) := ⟨_, Lib.hid rfl⟩
  have H0 : Hid ((zs.drop 0).any (litB bs) = e) := he
  rw [he.out]
  rw [hn.out] at hl ⊢
  clear hz hp hb hbox he
  go_enter Try.func58, Try.ntmps58
  go_wp2_with fail
  go_loop [5, 8] (fun v5 iv => ∃ i : Nat, i ≤ n ∧ iv = .int .i64 i ∧ Hid ((zs.drop i).any (litB bs) = e)) (fun _ iv => n - (intOf iv).toNat)
  case atStart => exact ⟨0, Nat.zero_le _, rfl, H0⟩
  case round =>
    clear H0
    obtain ⟨i, hi, rfl, H1⟩ := hrel
    by_cases hlt : i < n
    · obtain ⟨b, off, y, rfl, hb, c0, hyi, ry⟩ := HX.out.at_ (show i < zs.length by rw [hn.out]; exact hlt)
      have HA := Lib.hid (HE.out y (List.mem_of_getElem? hyi))
      have H2 : Hid ((litB bs y || (zs.drop (i + 1)).any (litB bs)) = e) := Lib.hid (by rw [← H1.out, drop_cons_ hyi, List.any_cons])
      obtain ⟨u, hu⟩ : ∃ u, Hid (litB bs y = u) := ⟨_, Lib.hid rfl⟩
      rw [hu.out] at HA H2
      clear H1 hyi ry hu
      go_wp2_with fail
      refine HA.out.mono ?_
      rintro r w2 ⟨rfl, rfl⟩
      clear HA
      cases u with
      | true =>
        have he : e = true := by rw [← H2.out]; rfl
        subst he
        clear H2
        go_wp2_with fail
        go_ret
        exact ⟨⟨(i : Int), rfl, decide_eq_true (by omega)⟩, rfl⟩
      | false =>
        have H3 : Hid ((zs.drop (i + 1)).any (litB bs) = e) := Lib.hid (by rw [← H2.out]; rfl)
        clear H2
        go_wp2_with fail
        go_round
        case rel => exact ⟨i + 1, by omega, by go_num, H3⟩
        case measure => simp [intOf]; omega
    · obtain rfl : i = n := by omega
      have he : e = false := by rw [← H1.out, List.drop_of_length_le (by rw [hn.out]; exact Nat.le_refl _)]; rfl
      subst he
      clear H1 HX
      go_wp2_with fail
      go_ret
      exact ⟨⟨-1, rfl, by decide⟩, rfl⟩
theorem evco_any (zs : List Int) (A : Option Addr) (ca : Nat) (bs : List Bool) (D : Option Addr) (ic ib : Nat) (w : World) (hz : Zs w w.heap.size A zs) (hl : zs.length ≤ 1000000) (hp : ∀ x ∈ zs, isLit bs.length x = true) (hN : bs.length ≤ 20000) (hb : Row w w.heap.size D (bvals bs)) (hbox : w.cell? ⟨ib, 0, none⟩ = some (.slice D bs.length ic)) :
    Calls Try.prog 42 #[.slice A zs.length ca, .func (.func 41) #[] #[.pointer (some ⟨ib, 0, none⟩)]] w fun e w' => e = .returned (.bool (zs.any (litB bs))) ∧ w = w' := by
  have HI := Lib.hid (evix_any zs A ca bs D ic ib w hz hl hp hN hb hbox)
  obtain ⟨e, he⟩ : ∃ e, Hid (zs.any (litB bs) = e) := ⟨_, Lib.hid rfl⟩
  rw [he.out] at HI ⊢
  clear hz hp hb hbox he
  go_enter Try.func42, Try.ntmps42
  go_wp2_with fail
  refine HI.out.mono ?_
  rintro r w2 ⟨⟨z, rfl, h1⟩, rfl⟩
  have H1 := Lib.hid h1
  clear HI h1
  go_wp2_with fail
  go_ret
  exact ⟨ret_bool (by rw [← H1.out]), rfl⟩
end Go.Proofs.Ytdbboeknknlolaa
