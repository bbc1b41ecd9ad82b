/- Walks: the reference's Covers. -/
import Derived.Test.YtcckocaaoklibaaNcv
import Derived.Test.YtcckocaaoklibaaNg
namespace Go.Proofs.Ytcckocaaoklibaa
open Go.RowKit Go.Maps
set_option linter.unusedVariables false

theorem infoPair : (Try.prog.info? 33).map (fun i => (i.zero, i.size, i.bytes)) = some (some (.agg #[.int .i64 0, .int .i64 0]), 2, 16) := by kernel_rfl
theorem own_slice2 {w : World} {base e n : Nat} {v : Value} {xs : List Value} (h : w.ownsRow base e 2 v n xs) : ∃ A c, v = .slice A n c := by
  rcases h.2 with ⟨h0, h1⟩ | ⟨g, cap, cur, hv, _⟩
  · exact ⟨none, 0, by rw [h0, h1]⟩
  · exact ⟨_, _, hv⟩
theorem Row.of_own2 {w : World} {base e : Nat} {A : Option Addr} {n c : Nat} {xs : List Value} (h : w.ownsRow base e 2 (.slice A n c) n xs) : Row w w.heap.size A xs := ⟨fun hn => by
  rcases h.2 with ⟨_, h0⟩ | ⟨g, cap, cur, hv, _, hg, _⟩
  · have := h.1; omega
  · injection hv with h1 h2 h3
    subst h1
    exact ⟨g, 0, rfl, (Array.getElem?_eq_some_iff.1 hg).1, fun k u hu => by
      have := h.cells (g := g) rfl k u hu
      have e : (⟨g, 0, none⟩ : Addr).add k = ⟨g, 0 + k, none⟩ := by unfold Addr.add; split <;> simp_all
      rwa [e] at this⟩⟩
theorem flat_append (ps qs : List (Int × Int)) : flat (ps ++ qs) = flat ps ++ flat qs := by unfold flat; rw [List.flatMap_append]

/-- a row of pairs that the call makes -/
structure PsOwn (w wr : World) (v : Value) (ps : List (Int × Int)) : Prop where
  own : wr.ownsRow w.heap.size 33 2 v ps.length (flat ps)
  bel : Below w.heap.size w wr
theorem PsOwn.prs {w wr : World} {A : Option Addr} {c : Nat} {ps : List (Int × Int)} (h : PsOwn w wr (.slice A ps.length c) ps) : Prs wr wr.heap.size A ps := ⟨Row.of_own2 h.own⟩
theorem PsOwn.drewN {w wr : World} {v : Value} {ps : List (Int × Int)} (h : PsOwn w wr v ps) (q : Nat) : PsOwn w (wr.drewN q) v ps :=
  ⟨h.own.kept (row := none) ⟨rfl, rfl, rfl, Nat.le_refl _, fun _ _ _ => rfl⟩ (by cases hv : v.ownBlock <;> simp), bDrew h.bel q⟩
theorem PsOwn.snoc {w wr w3 : World} {v v' : Value} {ps : List (Int × Int)} {o : Obj} {x y : Int} (h : PsOwn w wr v ps)
    (ho : w3.ownsRow w.heap.size 33 2 v' (ps.length + 1) (flat ps ++ [.int .i64 x, .int .i64 y]))
    (hgr : (wr.alloc o).grownBy w3 v.ownBlock) : PsOwn w w3 v' (ps ++ [(x, y)]) where
  own := by
    rw [flat_append, List.length_append]; exact ho
  bel := by
    refine (h.bel.alloc h.bel.size o).grown hgr (by have := h.bel.size; rw [World.size_alloc]; omega) (fun k hk => ?_)
    rcases h.own.2 with ⟨h0, _⟩ | ⟨g, cap, cur, hv, hb, _⟩
    · rw [h0] at hk; simp [Value.ownBlock] at hk
    · rw [hv] at hk; simp [Value.ownBlock] at hk; omega

namespace Kl
theorem cvRow_len (L : Nat → Nat → Bool) (n a k : Nat) : (cvRow L n a k).length ≤ k := by
  unfold cvRow
  rw [List.length_map]
  exact Nat.le_trans (List.length_filter_le _ _) (by rw [List.length_range]; exact Nat.le_refl _)
theorem cvTo_len (L : Nat → Nat → Bool) (n a : Nat) : (cvTo L n a).length ≤ a * n := by
  induction a with
  | zero => simp [cvTo]
  | succ a ih =>
    rw [cvTo_succ, List.length_append, Nat.succ_mul]
    have := cvRow_len L n a n
    omega
/-- no level below k lies strictly between a and b -/
def btw (L : Nat → Nat → Bool) (a b k : Nat) : Bool := (List.range k).all fun c => decide (c = a) || decide (c = b) || !(L a c && L c b)
theorem btw_succ (L : Nat → Nat → Bool) (a b k : Nat) : btw L a b (k + 1) = (btw L a b k && (decide (k = a) || decide (k = b) || !(L a k && L k b))) := by
  unfold btw; rw [List.range_succ, List.all_append]; simp
theorem cvB_btw (L : Nat → Nat → Bool) (n a b : Nat) : cvB L n a b = (L a b && decide (a ≠ b) && btw L a b n) := rfl
end Kl

set_option maxRecDepth 100000 in
set_option maxHeartbeats 8000000 in
theorem rcovers_ok (An : Option Addr) (n cn : Nat) (Al : Option Addr) (cl : Nat) (hn : n ≤ 12) (L : Nat → Nat → Bool) (w : World) (h : LeM w w.heap.size Al n L) :
    Calls Try.prog 7 #[rlV An n cn Al cl] w fun e w' => ∃ A c, e = .returned (.slice A (Kl.cvTo L n n).length c) ∧ Prs w' w'.heap.size A (Kl.cvTo L n n) ∧ Below w.heap.size w w' := by
  have b0 : Below w.heap.size w (w.alloc (.cells #[.slice An n cn, .slice Al n cl] 28)) := (Below.refl _ _).alloc (Nat.le_refl _) _
  have h1 := h.at b0
  have t0 : Two (w.alloc (.cells #[.slice An n cn, .slice Al n cl] 28)) w.heap.size (.slice An n cn) (.slice Al n cl) := Two.new_ _ _ _ _
  obtain ⟨i0, hi, hz0, hz1, hz2⟩ := info_parts infoPair
  unfold rlV
  go_enter Try.func7, Try.ntmps7
  go_wp2_with fail
  clear h
  have hw1 : (w.alloc (.cells #[.slice An n cn, .slice Al n cl] 28)).heap.size = w.heap.size + 1 := World.size_alloc _ _
  revert b0 h1 t0 hw1
  generalize w.alloc (.cells #[.slice An n cn, .slice Al n cl] 28) = w1
  intro b0 h1 t0 hw1
  replace hw1 := Lib.hid hw1
  have I0 : PsOwn w1 (w1.alloc (.cells #[] 33)) (.slice (some ⟨w1.heap.size, 0, none⟩) 0 0) [] := ⟨World.ownsRow_made (e := 33) (size := 2) (base := w1.heap.size) w1 #[] 0 (Nat.le_refl _) (by unfold maxLen; omega) rfl, al1 _ _⟩
  go_loopw [3, 4, 5, 6, 7] (fun v av _ _ _ wr => ∃ a : Nat, a ≤ n ∧ av = .int .i64 (a : Int) ∧ PsOwn w1 wr v (Kl.cvTo L n a)) (fun _ av _ _ _ _ => n - (intOf av).toNat)
  case atStart => exact ⟨0, Nat.zero_le _, rfl, by rw [← hw1.out]; exact I0⟩
  case round =>
    clear I0
    obtain ⟨a, ha, rfl, I⟩ := hrel
    have t1 := t0.below I.bel t0.lt
    have x0 := t1.c0
    by_cases hal : a < n
    · have haI : (a : Int) < (n : Int) := by omega
      go_wp2_with fail
      clear x0 t1
      go_loopw [3, 5, 6, 7] (fun v bv _ _ wx => ∃ b : Nat, b ≤ n ∧ bv = .int .i64 (b : Int) ∧ PsOwn w1 wx v (Kl.cvTo L n a ++ Kl.cvRow L n a b)) (fun _ bv _ _ _ => n - (intOf bv).toNat)
      case atStart => exact ⟨0, Nat.zero_le _, rfl, by rw [Kl.cvRow_zero, List.append_nil]; exact I⟩
      case round =>
        clear I
        obtain ⟨b, hb, rfl, I⟩ := hrel
        have t1 := t0.below I.bel t0.lt
        have x0 := t1.c0
        have x1 := t1.c1
        by_cases hbl : b < n
        · have hbI : (b : Int) < (n : Int) := by omega
          have hL1 := h1.at I.bel
          obtain ⟨bk, off, ga, rfl, hbb, hra, hga, hca⟩ := hL1.at_ hal
          have hcab := hca.out b hbl
          have hnext : Hid (Kl.cvTo L n a ++ Kl.cvRow L n a (b + 1) = (Kl.cvTo L n a ++ Kl.cvRow L n a b) ++ (if Kl.cvB L n a b then [((a : Int), (b : Int))] else [])) := Lib.hid (by rw [Kl.cvRow_succ, List.append_assoc])
          have hlen : Hid ((Kl.cvTo L n a ++ Kl.cvRow L n a b).length ≤ 169) := Lib.hid (by
            rw [List.length_append]
            have q1 := Kl.cvTo_len L n a
            have q2 := Kl.cvRow_len L n a b
            have q3 : a * n ≤ 12 * 12 := Nat.mul_le_mul (by omega) hn
            omega)
          by_cases hEq : a = b
          · have q1 : ((a : Int) == (b : Int)) = true := by simp; omega
            have HN : Hid (Kl.cvTo L n a ++ Kl.cvRow L n a (b + 1) = Kl.cvTo L n a ++ Kl.cvRow L n a b) := Lib.hid (by rw [hnext.out, if_neg (by rw [Kl.cvB_btw, decide_eq_false (by simpa using hEq)]; simp), List.append_nil])
            clear hEq hcab hca hra
            go_wp2_with fail
            go_roundw
            case rel => exact ⟨b + 1, by omega, by go_num, by rw [HN.out]; exact I⟩
            case measure => simp [intOf]; omega
          · have q1 : ((a : Int) == (b : Int)) = false := by simp; omega
            cases hLab : L a b with
            | false =>
              have HN : Hid (Kl.cvTo L n a ++ Kl.cvRow L n a (b + 1) = Kl.cvTo L n a ++ Kl.cvRow L n a b) := Lib.hid (by rw [hnext.out, if_neg (by rw [Kl.cvB_btw, hLab]; simp), List.append_nil])
              rw [hLab] at hcab
              clear hEq hca hLab
              go_wp2_with fail
              go_roundw
              case rel => exact ⟨b + 1, by omega, by go_num, by rw [HN.out]; exact I⟩
              case measure => simp [intOf]; omega
            | true =>
              have HC : Hid (Kl.cvB L n a b = Kl.btw L a b n) := Lib.hid (by rw [Kl.cvB_btw, hLab, decide_eq_true hEq]; rfl)
              rw [hLab] at hcab
              have HE := Lib.hid hEq
              clear hEq hLab
              go_wp2_with fail
              go_loop [6, 7] (fun gv cv => ∃ c : Nat, c ≤ n ∧ cv = .int .i64 (c : Int) ∧ gv = .bool (Kl.btw L a b c)) (fun _ cv => n - (intOf cv).toNat)
              case atStart => exact ⟨0, Nat.zero_le _, rfl, rfl⟩
              case round =>
                obtain ⟨c, hc, rfl, rfl⟩ := hrel
                by_cases hcl : c < n
                · have hcI : (c : Int) < (n : Int) := by omega
                  obtain ⟨bk2, off2, gc, he, hbb2, hrc, hgc, hcc⟩ := hL1.at_ hcl
                  injection he with he
                  injection he with e1 e2
                  subst e1 e2
                  have hac := hca.out c hcl
                  have hcb := hcc.out b hbl
                  have hstep := Lib.hid (Kl.btw_succ L a b c)
                  have keep : Hid ((decide (c = a) || decide (c = b) || !(L a c && L c b)) = true → Kl.btw L a b (c + 1) = Kl.btw L a b c) := Lib.hid fun e => by rw [hstep.out, e, Bool.and_true]
                  have lose : Hid ((decide (c = a) || decide (c = b) || !(L a c && L c b)) = false → Kl.btw L a b (c + 1) = false) := Lib.hid fun e => by rw [hstep.out, e, Bool.and_false]
                  by_cases e1 : c = a
                  · have q2 : ((c : Int) != (a : Int)) = false := by simp; omega
                    have HR := Lib.hid (keep.out (by rw [decide_eq_true e1]; rfl))
                    clear e1 hac hcb
                    go_wp2_with fail
                    go_round
                    case rel => exact ⟨c + 1, by omega, by go_num, by rw [HR.out]⟩
                    case measure => simp [intOf]; omega
                  · have q2 : ((c : Int) != (a : Int)) = true := by simp; omega
                    by_cases e2 : c = b
                    · have q3 : ((c : Int) != (b : Int)) = false := by simp; omega
                      have HR := Lib.hid (keep.out (by rw [decide_eq_true e2]; simp))
                      clear e1 e2 hac hcb
                      go_wp2_with fail
                      go_round
                      case rel => exact ⟨c + 1, by omega, by go_num, by rw [HR.out]⟩
                      case measure => simp [intOf]; omega
                    · have q3 : ((c : Int) != (b : Int)) = true := by simp; omega
                      cases hA : L a c with
                      | false =>
                        have HR := Lib.hid (keep.out (by rw [hA]; simp))
                        rw [hA] at hac
                        clear e1 e2 hA
                        go_wp2_with fail
                        go_round
                        case rel => exact ⟨c + 1, by omega, by go_num, by rw [HR.out]⟩
                        case measure => simp [intOf]; omega
                      | true =>
                        rw [hA] at hac
                        cases hB : L c b with
                        | false =>
                          have HR := Lib.hid (keep.out (by rw [hB]; simp))
                          rw [hB] at hcb
                          clear e1 e2 hA hB
                          go_wp2_with fail
                          go_round
                          case rel => exact ⟨c + 1, by omega, by go_num, by rw [HR.out]⟩
                          case measure => simp [intOf]; omega
                        | true =>
                          have HR := Lib.hid (lose.out (by rw [hA, hB, decide_eq_false e1, decide_eq_false e2]; rfl))
                          rw [hB] at hcb
                          clear e1 e2 hA hB
                          go_wp2_with fail
                          go_round
                          case rel => exact ⟨c + 1, by omega, by go_num, by rw [HR.out]⟩
                          case measure => simp [intOf]; omega
                · obtain rfl : c = n := by omega
                  rw [← HC.out]
                  cases hcv : Kl.cvB L c a b with
                  | false =>
                    have HN : Hid (Kl.cvTo L c a ++ Kl.cvRow L c a (b + 1) = Kl.cvTo L c a ++ Kl.cvRow L c a b) := Lib.hid (by rw [hnext.out, hcv]; simp)
                    clear hcv
                    go_wp2_with fail
                    go_roundw
                    case rel => exact ⟨b + 1, by omega, by go_num, by rw [HN.out]; exact I⟩
                    case measure => simp [intOf]; omega
                  | true =>
                    have HN : Hid (Kl.cvTo L c a ++ Kl.cvRow L c a (b + 1) = (Kl.cvTo L c a ++ Kl.cvRow L c a b) ++ [((a : Int), (b : Int))]) := Lib.hid (by rw [hnext.out, hcv]; simp)
                    clear hcv
                    revert I hlen HN
                    generalize Kl.cvTo L c a ++ Kl.cvRow L c a b = qs
                    intro I hlen HN
                    obtain ⟨A', c', rfl⟩ := own_slice2 I.own
                    have ho := I.own
                    go_wp2_with (at_builtin; refine wpList_append_own _ rfl _ _ 23 rfl w1.heap.size 33 i0 (.agg #[.int .i64 0, .int .i64 0]) 2 16 Try.underlying23 hi hz0 hz1 hz2 rfl (by decide) _ _ _ rfl (ho.alloc _) ⟨_, 0, none⟩ 1 1 [.int .i64 (a : Int), .int .i64 (b : Int)] rfl rfl ?c1 ?c2 ?c3 ?c4 ?c5 ?_)
                    case c2 => exact ⟨rfl, rfl⟩
                    case c3 => have := hlen.out; unfold maxLen; omega
                    case c4 => have := hlen.out; omega
                    case c5 => have := I.bel.size; first | omega | (simp; omega)
                    intro v' w3 hown' hgrow _
                    have I3 := I.snoc hown' hgrow
                    clear hown' hgrow ho I
                    go_wp2_with fail
                    go_roundw
                    case rel => exact ⟨b + 1, by omega, by go_num, by rw [HN.out]; exact I3⟩
                    case measure => simp [intOf]; omega
        · obtain rfl : b = n := by omega
          rw [← Kl.cvTo_succ] at I
          go_wp2_with fail
          go_roundw
          case rel => exact ⟨a + 1, by omega, by go_num, I⟩
          case measure => simp [intOf]; omega
    · obtain rfl : a = n := by omega
      obtain ⟨A', c', rfl⟩ := own_slice2 I.own
      have hpr := I.prs
      go_wp2_with fail
      go_ret
      exact ⟨A', c', rfl, hpr, b0.trans (I.bel.mono b0.size)⟩
end Go.Proofs.Ytcckocaaoklibaa
