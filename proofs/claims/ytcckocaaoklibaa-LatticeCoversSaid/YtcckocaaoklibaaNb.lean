/- Walks: the reference's In, Join and Meet. -/
import Derived.Test.YtcckocaaoklibaaNa
namespace Go.Proofs.Ytcckocaaoklibaa
open Go.RowKit Go.Maps
set_option linter.unusedVariables false

/-- rows of a relation, to read -/
def LeM (w : World) (B : Nat) (A : Option Addr) (n : Nat) (R : Nat → Nat → Bool) : Prop :=
  ∃ gs : List Nat, gs.length = n ∧ Row w B A (sv n gs) ∧ ∀ (i g : Nat), gs[i]? = some g → g < B ∧ ∀ j, j < n → w.cell? ⟨g, j, none⟩ = some (.bool (R i j))
theorem LeM.at {w w' : World} {A : Option Addr} {n : Nat} {R : Nat → Nat → Bool} (h : LeM w w.heap.size A n R) (hb : Below w.heap.size w w') : LeM w' w'.heap.size A n R := by
  obtain ⟨gs, h1, h2, h3⟩ := h
  refine ⟨gs, h1, (h2.below hb).more hb.size, fun i g hg => ⟨Nat.lt_of_lt_of_le (h3 i g hg).1 hb.size, fun j hj => ?_⟩⟩
  exact (hb.cell (p := ⟨g, j, none⟩) (h3 i g hg).1).trans ((h3 i g hg).2 j hj)
theorem LeM.at_ {w : World} {B : Nat} {A : Option Addr} {n a : Nat} {R : Nat → Nat → Bool} (h : LeM w B A n R) (ha : a < n) :
    ∃ b off g, A = some ⟨b, off, none⟩ ∧ b < B ∧ w.cell? ⟨b, off + a, none⟩ = some (.slice (some ⟨g, 0, none⟩) n n) ∧ g < B ∧ Hid (∀ j, j < n → w.cell? ⟨g, j, none⟩ = some (.bool (R a j))) := by
  obtain ⟨gs, h1, h2, h3⟩ := h
  obtain ⟨b, off, e, hb, hc⟩ := h2.cells (by rw [sv_length]; omega)
  obtain ⟨g, hg⟩ : ∃ g, gs[a]? = some g := ⟨_, List.getElem?_eq_getElem (by omega)⟩
  exact ⟨b, off, g, e, hb, hc a _ (by unfold sv; rw [List.getElem?_map, hg]; rfl), (h3 a g hg).1, Lib.hid (h3 a g hg).2⟩
theorem ClInv.lem {w wr : World} {o cap : Nat} {gs : List Nat} {n : Nat} {R : Nat → Nat → Bool} (h : ClInv w wr (.slice (some ⟨o, 0, none⟩) n cap) gs n R) (hl : gs.length = n) : LeM wr wr.heap.size (some ⟨o, 0, none⟩) n R := by
  have ho := h.own
  rw [hl] at ho
  refine ⟨gs, hl, Row.of_own ho, fun i g hg => ⟨(h.el i g hg).1.lt, fun j hj => (h.el i g hg).1.cell (bcells_at _ hj)⟩⟩

/-- the reference's lattice as a value -/
def rlV (An : Option Addr) (n cn : Nat) (Al : Option Addr) (cl : Nat) : Value := .agg #[.slice An n cn, .slice Al n cl]
namespace Kl
/-- nothing below d spoils c -/
def lubTo (L : Nat → Nat → Bool) (a b c d : Nat) : Bool := (List.range d).all fun e => !(L a e && L b e) || L c e
theorem lubTo_succ (L : Nat → Nat → Bool) (a b c d : Nat) : lubTo L a b c (d + 1) = (lubTo L a b c d && (!(L a d && L b d) || L c d)) := by
  unfold lubTo; rw [List.range_succ, List.all_append]; simp
theorem lub_to (L : Nat → Nat → Bool) (n a b c : Nat) : lub L n a b c = (L a c && L b c && lubTo L a b c n) := rfl
end Kl

set_option maxRecDepth 100000 in
set_option maxHeartbeats 4000000 in
theorem rjoin_ok (An : Option Addr) (n cn : Nat) (Al : Option Addr) (cl : Nat) (hn : n ≤ 12) (L : Nat → Nat → Bool) (hL : Kl.Pre L n) (a b : Nat) (ha : a < n) (hb : b < n) (w : World) (h : LeM w w.heap.size Al n L) :
    Calls Try.prog 26 #[rlV An n cn Al cl, .int .i64 (a : Int), .int .i64 (b : Int)] w fun e w' => e = .returned (.int .i64 (Kl.numI (Kl.jn L n a b))) ∧ Below w.heap.size w w' := by
  have b0 : Below w.heap.size w (w.alloc (.cells #[.slice An n cn, .slice Al n cl] 28)) := (Below.refl _ _).alloc (Nat.le_refl _) _
  have h1 := h.at b0
  obtain ⟨bk, off, ga, rfl, hbb, hra, hga, hca⟩ := h1.at_ ha
  obtain ⟨bk2, off2, gb, he, hbb2, hrb, hgb, hcb⟩ := h1.at_ hb
  injection he with he
  injection he with e1 e2
  subst e1 e2
  have hJ := Lib.hid (Kl.jn_lub hL a b)
  have haI : (a : Int) < (n : Int) := by omega
  have hbI : (b : Int) < (n : Int) := by omega
  unfold rlV
  go_enter Try.func26, Try.ntmps26
  go_wp2_with fail
  have t0 : Two (w.alloc (.cells #[.slice An n cn, .slice (some ⟨bk, off, none⟩) n cl] 28)) w.heap.size (.slice An n cn) (.slice (some ⟨bk, off, none⟩) n cl) := Two.new_ _ _ _ _
  have x0 := t0.c0
  have x1 := t0.c1
  clear t0 h
  generalize w.alloc (.cells #[.slice An n cn, .slice (some ⟨bk, off, none⟩) n cl] 28) = w1 at *
  go_loop [7, 8, 9] (fun cv _ _ => ∃ c : Nat, c ≤ n ∧ cv = .int .i64 c ∧ Hid (∀ d, d < c → Kl.lub L n a b d = false)) (fun cv _ _ => n - (intOf cv).toNat)
  case atStart => exact ⟨0, Nat.zero_le _, rfl, Lib.hid fun d hd => by omega⟩
  case round =>
    obtain ⟨c, hc, rfl, hno⟩ := hrel
    by_cases hlt : c < n
    · obtain ⟨bk2, off2, gc, he, hbb2, hrc, hgc, hcc⟩ := h1.at_ hlt
      injection he with he
      injection he with e1 e2
      subst e1 e2
      have hac := hca.out c hlt
      have hbc := hcb.out c hlt
      have hcI : (c : Int) < (n : Int) := by omega
      have hskip : Hid ((L a c && L b c) = false → ∀ d, d < c + 1 → Kl.lub L n a b d = false) := Lib.hid fun hh d hd => by
        by_cases e : d = c
        · subst e; rw [Kl.lub_to, hh]; rfl
        · exact hno.out d (by omega)
      cases hA : L a c with
      | false =>
        have hR := Lib.hid (hskip.out (by rw [hA]; rfl))
        rw [hA] at hac
        clear hA
        go_wp2_with fail
        go_round
        case rel => exact ⟨c + 1, by omega, by go_num, hR⟩
        case measure => simp [intOf]; omega
      | true =>
        cases hB : L b c with
        | false =>
          have hR := Lib.hid (hskip.out (by rw [hB]; simp))
          rw [hA] at hac
          rw [hB] at hbc
          clear hA hB
          go_wp2_with fail
          go_round
          case rel => exact ⟨c + 1, by omega, by go_num, hR⟩
          case measure => simp [intOf]; omega
        | true =>
          have hlub : Hid (Kl.lub L n a b c = Kl.lubTo L a b c n) := Lib.hid (by rw [Kl.lub_to, hA, hB]; rfl)
          rw [hA] at hac
          rw [hB] at hbc
          clear hA hB
          go_wp2_with fail
          go_loop [8, 9] (fun sv dv => ∃ d : Nat, d ≤ n ∧ dv = .int .i64 d ∧ sv = .bool (Kl.lubTo L a b c d)) (fun _ dv => n - (intOf dv).toNat)
          case atStart => exact ⟨0, Nat.zero_le _, rfl, rfl⟩
          case round =>
            obtain ⟨d, hd, rfl, rfl⟩ := hrel
            by_cases hdn : d < n
            · have had := hca.out d hdn
              have hbd := hcb.out d hdn
              have hcd := hcc.out d hdn
              have hdI : (d : Int) < (n : Int) := by omega
              have hS := Lib.hid (Kl.lubTo_succ L a b c d)
              obtain ⟨s, hs⟩ : ∃ s, Hid (Kl.lubTo L a b c d = s) := ⟨_, Lib.hid rfl⟩
              rw [hs.out] at hS
              rw [hs.out]
              cases h1d : L a d with
              | false =>
                rw [h1d] at had hS
                clear h1d
                go_wp2_with fail
                go_round
                case rel => exact ⟨d + 1, by omega, by go_num, by rw [hS.out]; simp⟩
                case measure => simp [intOf]; omega
              | true =>
                cases h2d : L b d with
                | false =>
                  rw [h1d] at had hS
                  rw [h2d] at hbd hS
                  clear h1d h2d
                  go_wp2_with fail
                  go_round
                  case rel => exact ⟨d + 1, by omega, by go_num, by rw [hS.out]; simp⟩
                  case measure => simp [intOf]; omega
                | true =>
                  cases h3d : L c d with
                  | false =>
                    rw [h1d] at had hS
                    rw [h2d] at hbd hS
                    rw [h3d] at hcd hS
                    clear h1d h2d h3d
                    go_wp2_with fail
                    go_round
                    case rel => exact ⟨d + 1, by omega, by go_num, by rw [hS.out]; simp⟩
                    case measure => simp [intOf]; omega
                  | true =>
                    rw [h1d] at had hS
                    rw [h2d] at hbd hS
                    rw [h3d] at hcd hS
                    clear h1d h2d h3d
                    go_wp2_with fail
                    go_round
                    case rel => exact ⟨d + 1, by omega, by go_num, by rw [hS.out]; simp⟩
                    case measure => simp [intOf]; omega
            · obtain rfl : d = n := by omega
              cases hq : Kl.lubTo L a b c d with
              | true =>
                have hR := Lib.hid (Kl.firstN_is hlt (hlub.out.trans hq) hno.out)
                clear hq
                go_wp2_with fail
                go_ret
                exact ⟨ret_int (by rw [← hJ.out, hR.out]; rfl), b0⟩
              | false =>
                have hR := Lib.hid (hlub.out.trans hq)
                clear hq
                go_wp2_with fail
                go_round
                case rel => exact ⟨c + 1, by omega, by go_num, Lib.hid fun e he => by
                  by_cases q : e = c
                  · rw [q]; exact hR.out
                  · exact hno.out e (by omega)⟩
                case measure => simp [intOf]; omega
    · obtain rfl : c = n := by omega
      have hR := Lib.hid (Kl.firstN_no hno.out)
      go_wp2_with fail
      go_ret
      exact ⟨ret_int (by rw [← hJ.out, hR.out]; rfl), b0⟩

set_option maxRecDepth 100000 in
set_option maxHeartbeats 4000000 in
theorem rmeet_ok (An : Option Addr) (n cn : Nat) (Al : Option Addr) (cl : Nat) (hn : n ≤ 12) (L : Nat → Nat → Bool) (hL : Kl.Pre L n) (a b : Nat) (ha : a < n) (hb : b < n) (w : World) (h : LeM w w.heap.size Al n L) :
    Calls Try.prog 27 #[rlV An n cn Al cl, .int .i64 (a : Int), .int .i64 (b : Int)] w fun e w' => e = .returned (.int .i64 (Kl.numI (Kl.jn (Kl.flip L) n a b))) ∧ Below w.heap.size w w' := by
  have b0 : Below w.heap.size w (w.alloc (.cells #[.slice An n cn, .slice Al n cl] 28)) := (Below.refl _ _).alloc (Nat.le_refl _) _
  have h1 := h.at b0
  obtain ⟨bk, off, ga, rfl, hbb, _, _, _⟩ := h1.at_ ha
  have hJ := Lib.hid (Kl.jn_lub hL.flip_ a b)
  have haI : (a : Int) < (n : Int) := by omega
  have hbI : (b : Int) < (n : Int) := by omega
  unfold rlV
  go_enter Try.func27, Try.ntmps27
  go_wp2_with fail
  have t0 : Two (w.alloc (.cells #[.slice An n cn, .slice (some ⟨bk, off, none⟩) n cl] 28)) w.heap.size (.slice An n cn) (.slice (some ⟨bk, off, none⟩) n cl) := Two.new_ _ _ _ _
  have x0 := t0.c0
  have x1 := t0.c1
  clear t0 h
  revert b0 h1 x0 x1
  generalize w.alloc (.cells #[.slice An n cn, .slice (some ⟨bk, off, none⟩) n cl] 28) = w1
  intro b0 h1 x0 x1
  go_loop [7, 8, 9] (fun cv _ _ => ∃ c : Nat, c ≤ n ∧ cv = .int .i64 c ∧ Hid (∀ d, d < c → Kl.lub (Kl.flip L) n a b d = false)) (fun cv _ _ => n - (intOf cv).toNat)
  case atStart => exact ⟨0, Nat.zero_le _, rfl, Lib.hid fun d hd => by omega⟩
  case round =>
    obtain ⟨c, hc, rfl, hno⟩ := hrel
    by_cases hlt : c < n
    · obtain ⟨bk2, off2, gc, he, hbb2, hrc, hgc, hcc⟩ := h1.at_ hlt
      injection he with he
      injection he with e1 e2
      subst e1 e2
      have hac := hcc.out a ha
      have hbc := hcc.out b hb
      have hcI : (c : Int) < (n : Int) := by omega
      have hskip : Hid ((L c a && L c b) = false → ∀ d, d < c + 1 → Kl.lub (Kl.flip L) n a b d = false) := Lib.hid fun hh d hd => by
        by_cases e : d = c
        · subst e
          rw [Kl.lub_to]
          show (L d a && L d b && _) = false
          rw [hh]; rfl
        · exact hno.out d (by omega)
      cases hA : L c a with
      | false =>
        have hR := Lib.hid (hskip.out (by rw [hA]; rfl))
        rw [hA] at hac
        clear hA
        go_wp2_with fail
        go_round
        case rel => exact ⟨c + 1, by omega, by go_num, hR⟩
        case measure => simp [intOf]; omega
      | true =>
        cases hB : L c b with
        | false =>
          have hR := Lib.hid (hskip.out (by rw [hB]; simp))
          rw [hA] at hac
          rw [hB] at hbc
          clear hA hB
          go_wp2_with fail
          go_round
          case rel => exact ⟨c + 1, by omega, by go_num, hR⟩
          case measure => simp [intOf]; omega
        | true =>
          have hlub : Hid (Kl.lub (Kl.flip L) n a b c = Kl.lubTo (Kl.flip L) a b c n) := Lib.hid (by
            rw [Kl.lub_to]
            show (L c a && L c b && _) = _
            rw [hA, hB]; rfl)
          rw [hA] at hac
          rw [hB] at hbc
          clear hA hB
          go_wp2_with fail
          go_loop [8, 9] (fun sv dv => ∃ d : Nat, d ≤ n ∧ dv = .int .i64 d ∧ sv = .bool (Kl.lubTo (Kl.flip L) a b c d)) (fun _ dv => n - (intOf dv).toNat)
          case atStart => exact ⟨0, Nat.zero_le _, rfl, rfl⟩
          case round =>
            obtain ⟨d, hd, rfl, rfl⟩ := hrel
            by_cases hdn : d < n
            · obtain ⟨bk2, off2, gd, he, hbb2, hrd, hgd, hdd⟩ := h1.at_ hdn
              injection he with he
              injection he with e1 e2
              subst e1 e2
              have had := hdd.out a ha
              have hbd := hdd.out b hb
              have hcd := hdd.out c hlt
              have hdI : (d : Int) < (n : Int) := by omega
              have hS0 : Kl.lubTo (Kl.flip L) a b c (d + 1) = (Kl.lubTo (Kl.flip L) a b c d && (!(L d a && L d b) || L d c)) := Kl.lubTo_succ (Kl.flip L) a b c d
              have hS := Lib.hid hS0
              clear hS0
              obtain ⟨s, hs⟩ : ∃ s, Hid (Kl.lubTo (Kl.flip L) a b c d = s) := ⟨_, Lib.hid rfl⟩
              rw [hs.out] at hS
              rw [hs.out]
              cases h1d : L d a with
              | false =>
                rw [h1d] at had hS
                clear h1d
                go_wp2_with fail
                go_round
                case rel => exact ⟨d + 1, by omega, by go_num, by rw [hS.out]; simp⟩
                case measure => simp [intOf]; omega
              | true =>
                cases h2d : L d b with
                | false =>
                  rw [h1d] at had hS
                  rw [h2d] at hbd hS
                  clear h1d h2d
                  go_wp2_with fail
                  go_round
                  case rel => exact ⟨d + 1, by omega, by go_num, by rw [hS.out]; simp⟩
                  case measure => simp [intOf]; omega
                | true =>
                  cases h3d : L d c with
                  | false =>
                    rw [h1d] at had hS
                    rw [h2d] at hbd hS
                    rw [h3d] at hcd hS
                    clear h1d h2d h3d
                    go_wp2_with fail
                    go_round
                    case rel => exact ⟨d + 1, by omega, by go_num, by rw [hS.out]; simp⟩
                    case measure => simp [intOf]; omega
                  | true =>
                    rw [h1d] at had hS
                    rw [h2d] at hbd hS
                    rw [h3d] at hcd hS
                    clear h1d h2d h3d
                    go_wp2_with fail
                    go_round
                    case rel => exact ⟨d + 1, by omega, by go_num, by rw [hS.out]; simp⟩
                    case measure => simp [intOf]; omega
            · obtain rfl : d = n := by omega
              cases hq : Kl.lubTo (Kl.flip L) a b c d with
              | true =>
                have hR := Lib.hid (Kl.firstN_is hlt (hlub.out.trans hq) hno.out)
                clear hq
                go_wp2_with fail
                go_ret
                exact ⟨ret_int (by rw [← hJ.out, hR.out]; rfl), b0⟩
              | false =>
                have hR := Lib.hid (hlub.out.trans hq)
                clear hq
                go_wp2_with fail
                go_round
                case rel => exact ⟨c + 1, by omega, by go_num, Lib.hid fun e he => by
                  by_cases q : e = c
                  · rw [q]; exact hR.out
                  · exact hno.out e (by omega)⟩
                case measure => simp [intOf]; omega
    · obtain rfl : c = n := by omega
      have hR := Lib.hid (Kl.firstN_no hno.out)
      go_wp2_with fail
      go_ret
      exact ⟨ret_int (by rw [← hJ.out, hR.out]; rfl), b0⟩
end Go.Proofs.Ytcckocaaoklibaa
