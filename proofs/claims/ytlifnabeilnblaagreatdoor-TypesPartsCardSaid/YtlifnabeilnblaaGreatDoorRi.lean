/- Walks: named, doubled of the reference. -/
import Derived.Test.YtlifnabeilnblaaGreatDoorRf
import Derived.Test.YtlifnabeilnblaaGreatDoorEq
import Derived.Test.YtlifnabeilnblaaGreatDoorSz
import Derived.Test.YtlifnabeilnblaaGreatDoorRh
namespace Go.Proofs.YtlifnabeilnblaaGreatDoor
open Go.RowKit Go.Sort
set_option linter.unusedVariables false

/-- the contract of named -/
def NmE (e : G) : Prop := ∀ w : World, G.In w w.heap.size e → Calls Tryz.prog 42 #[e.val] w fun r w' => r = .returned (.bool (e.any G.isName)) ∧ Below w.heap.size w w'
set_option maxRecDepth 100000 in
set_option maxHeartbeats 1000000 in
theorem rnamed_any (e : G) : NmE e := by
  induction e using G.ind with
  | h e ih =>
  intro w hin
  have IH := Lib.hid ih
  have hl := hin.l
  have hlen := hin.nd.len
  have X := Eb.start w e 26
  have b1 := X.bel
  have d0 := X.be.c 0 (show e.box[0]? = some (.int .i64 e.kd) from rfl)
  have c6 := X.c6
  obtain ⟨A, hA⟩ : ∃ A, Hid (e.ad = A) := ⟨_, Lib.hid rfl⟩
  rw [hA.out] at hl c6
  obtain ⟨z, hz⟩ : ∃ z, Hid (e.any G.isName = z) := ⟨_, Lib.hid rfl⟩
  rw [hz.out]
  have HZ := hz
  clear ih hin hz
  by_cases h4 : e.kd = 4
  · have HR : Hid (true = z) := Lib.hid (by rw [← HZ.out, G.any_here (by unfold G.isName; rw [h4]; rfl)])
    rw [h4] at d0
    have h4' := Lib.hid h4
    clear h4
    go_enter Tryz.func42, Tryz.ntmps42
    go_wp2_with fail
    go_ret
    exact ⟨ret_bool HR.out, b1⟩
  · have HH : Hid (G.isName e = false) := Lib.hid (by unfold G.isName; simpa using h4)
    have q4 : (e.kd == 4) = false := by simpa using h4
    clear h4
    go_enter Tryz.func42, Tryz.ntmps42
    go_wp2_with fail
    clear c6 d0 b1
    go_loopw [3] (fun iv wr => ∃ i : Nat, i ≤ e.ks.length ∧ iv = .int .i64 i ∧ Hid (∀ k, k < i → ∀ e', G.Is e.ks k e' → e'.any G.isName = false) ∧ Eb w wr e) (fun iv _ => e.ks.length - (intOf iv).toNat)
    case atStart => exact ⟨0, Nat.zero_le _, rfl, Lib.hid (fun k hk => absurd hk (Nat.not_lt_zero _)), X⟩
    case round =>
      clear X
      obtain ⟨i, hi, rfl, hg, Y⟩ := hrel
      have c6 := Y.c6
      rw [hA.out] at c6
      have b3 := Y.bel
      by_cases hlt : i < e.ks.length
      · obtain ⟨ab, off, k, rfl, hab, ⟨d0, d1, d2, d3, d4, d5, d6⟩, his, hkin⟩ := (hl.below Y.bel).at_ hlt
        have HI := Lib.hid (IH.out k his.mem)
        have hk2 := Y.kid hkin
        cases hb2 : k.any G.isName with
        | true =>
          have HQ : Hid (true = z) := Lib.hid (by rw [← HZ.out, G.any_hit his hb2])
          have HB2 := Lib.hid hb2
          clear hb2 hkin hg
          go_wp2_with fail
          refine (HI.out _ hk2).mono ?_
          rintro r w2 ⟨rfl, b2⟩
          rw [HB2.out]
          go_wp2_with fail
          go_ret
          exact ⟨ret_bool HQ.out, bTrans b3 b2⟩
        | false =>
          have HG : Hid (∀ k, k < i + 1 → ∀ e', G.Is e.ks k e' → e'.any G.isName = false) := Lib.hid (G.all_next (p := G.any G.isName) hg.out his hb2)
          have HB2 := Lib.hid hb2
          clear hb2 hkin hg
          go_wp2_with fail
          refine (HI.out _ hk2).mono ?_
          rintro r w2 ⟨rfl, b2⟩
          rw [HB2.out]
          have Y2 := Y.below b2
          go_wp2_with fail
          go_roundw
          case rel => exact ⟨i + 1, by omega, by go_num, HG, Y2⟩
          case measure => simp [intOf]; omega
      · obtain rfl : i = e.ks.length := by omega
        have HQ : Hid (false = z) := Lib.hid (by rw [← HZ.out, G.any_none HH.out hg.out])
        go_wp2_with fail
        go_ret
        exact ⟨ret_bool HQ.out, b3⟩

/-- no two of the first names are the same -/
def Dif (l : List ByteArray) (i : Nat) : Prop := ∀ a b, b < a → a < i → ∀ (ha : a < l.length) (hb : b < l.length), l[a] ≠ l[b]
def Dif2 (l : List ByteArray) (i k : Nat) : Prop := ∀ b, b < k → ∀ (ha : i < l.length) (hb : b < l.length), l[i] ≠ l[b]
theorem Dif.next {l : List ByteArray} {i : Nat} (h : Dif l i) (h2 : Dif2 l i i) : Dif l (i + 1) := fun a b hb ha ha' hb' => by
  by_cases hai : a = i
  · subst hai; exact h2 b hb ha' hb'
  · exact h a b hb (by omega) ha' hb'
theorem Dif2.next {l : List ByteArray} {i k : Nat} (h : Dif2 l i k) (h2 : ∀ (ha : i < l.length) (hb : k < l.length), l[i] ≠ l[k]) : Dif2 l i (k + 1) := fun b hb ha hb' => by
  by_cases hbk : b = k
  · subst hbk; exact h2 ha hb'
  · exact h b (by omega) ha hb'
theorem twins_no {e : G} (h : Dif e.ns e.ns.length) : G.twins e = false := by
  unfold G.twins
  rw [Bool.not_eq_false', decide_eq_true_eq]
  refine List.pairwise_iff_getElem.2 ?_
  intro i j hi hj hij heq
  exact h j i hij hj hj hi heq.symm
theorem twins_yes {e : G} {i k : Nat} (hk : k < i) (hi : i < e.ns.length) (h : e.ns[i] = e.ns[k]) : G.twins e = true := by
  unfold G.twins
  rw [Bool.not_eq_true', decide_eq_false_iff_not]
  intro hh
  exact List.pairwise_iff_getElem.1 hh k i (by omega) hi hk h.symm
/-- the contract of doubled -/
def DbE (e : G) : Prop := ∀ w : World, G.In w w.heap.size e → Calls Tryz.prog 43 #[e.val] w fun r w' => r = .returned (.bool (e.any G.dbl)) ∧ Below w.heap.size w w'
set_option maxRecDepth 100000 in
set_option maxHeartbeats 4000000 in
theorem rdoubled_any (e : G) : DbE e := by
  induction e using G.ind with
  | h e ih =>
  intro w hin
  have IH := Lib.hid ih
  have hl := hin.l
  have hnd := Lib.hid hin.nd
  have hlen := hin.nd.len
  have hnlen := hin.nd.nlen
  have X := Eb.start w e 26
  have b1 := X.bel
  have d0 := X.be.c 0 (show e.box[0]? = some (.int .i64 e.kd) from rfl)
  have c6 := X.c6
  have c5 := X.be.c 5 (show e.box[5]? = some (.slice e.na e.ns.length e.nc) from rfl)
  obtain ⟨A, hA⟩ : ∃ A, Hid (e.ad = A) := ⟨_, Lib.hid rfl⟩
  rw [hA.out] at hl c6
  obtain ⟨D, hD⟩ : ∃ D, Hid (e.na = D) := ⟨_, Lib.hid rfl⟩
  rw [hD.out] at c5
  obtain ⟨z, hz⟩ : ∃ z, Hid (e.any G.dbl = z) := ⟨_, Lib.hid rfl⟩
  rw [hz.out]
  have HZ := hz
  clear ih hin hz
  by_cases h3 : e.kd = 3
  · have HT : Hid (G.twins e = true → true = z) := Lib.hid (fun ht => by rw [← HZ.out, G.any_here (by unfold G.dbl; rw [h3, ht]; rfl)])
    have HH0 : Hid (G.twins e = false → G.dbl e = false) := Lib.hid (fun ht => by unfold G.dbl; rw [ht]; simp)
    rw [h3] at d0
    have h3' := Lib.hid h3
    clear h3
    go_enter Tryz.func43, Tryz.ntmps43
    go_wp2_with fail
    clear c5 c6 d0 b1
    go_loopw [3] (fun iv wr => ∃ i : Nat, i ≤ e.ns.length ∧ iv = .int .i64 i ∧ Hid (Dif e.ns i) ∧ Eb w wr e) (fun iv _ => e.ns.length - (intOf iv).toNat)
    case atStart => exact ⟨0, Nat.zero_le _, rfl, Lib.hid (fun a b _ ha => absurd ha (Nat.not_lt_zero _)), X⟩
    case round =>
      clear X
      obtain ⟨i, hi, rfl, hg, Y⟩ := hrel
      have c5 : wr.cell? ⟨w.heap.size, 5, none⟩ = some (.slice D e.ns.length e.nc) := by have := Y.be.c 5 (show e.box[5]? = some (.slice e.na e.ns.length e.nc) from rfl); rwa [hD.out] at this
      have c6 : wr.cell? ⟨w.heap.size, 6, none⟩ = some (.slice A e.ks.length e.cap) := by have := Y.c6; rwa [hA.out] at this
      by_cases hlt : i < e.ns.length
      · go_wp2_with fail
        clear c5 c6
        go_loopw [4] (fun kv wx => ∃ k : Nat, k ≤ i ∧ kv = .int .i64 k ∧ Hid (Dif2 e.ns i k) ∧ Eb w wx e) (fun kv _ => i - (intOf kv).toNat)
        case atStart => exact ⟨0, Nat.zero_le _, rfl, Lib.hid (fun b hb => absurd hb (Nat.not_lt_zero _)), Y⟩
        case round =>
          clear Y
          obtain ⟨k, hk, rfl, hg2, Y⟩ := hrel
          have c5 : wr.cell? ⟨w.heap.size, 5, none⟩ = some (.slice D e.ns.length e.nc) := by have := Y.be.c 5 (show e.box[5]? = some (.slice e.na e.ns.length e.nc) from rfl); rwa [hD.out] at this
          have b3 := Y.bel
          by_cases hkl : k < i
          · have hkn : k < e.ns.length := by omega
            obtain ⟨ab, off, hA2, hab, hc⟩ := (hnd.out.below Y.bel).name_at hlt
            obtain rfl : D = some ⟨ab, off, none⟩ := hD.out.symm.trans hA2
            obtain ⟨ab', off', hA3, hab', hc'⟩ := (hnd.out.below Y.bel).name_at hkn
            have hAA := hA2.symm.trans hA3
            injection hAA with hAA
            injection hAA with h1 h2
            subst h1; subst h2
            clear hA2 hA3 hab'
            have HG2 := Lib.hid (fun (h : e.ns[i] ≠ e.ns[k]) => hg2.out.next (fun _ _ => h))
            have HB := Lib.hid (fun (h : e.ns[i] = e.ns[k]) => HT.out (twins_yes hkl hlt h))
            revert hc hc' HG2 HB
            generalize e.ns[i] = s
            generalize e.ns[k] = t
            intro hc hc' HG2 HB
            have hst := str_eq (s := s) (t := t)
            by_cases hs : s = t
            · have HQ := Lib.hid (HB.out hs)
              rw [decide_eq_true hs] at hst
              clear hs HB HG2
              go_wp2_with fail
              go_quiet (fail)
              go_wp2_with fail
              go_ret
              exact ⟨ret_bool HQ.out, bDrew b3 _⟩
            · have HG3 := Lib.hid (HG2.out hs)
              rw [decide_eq_false hs] at hst
              clear hs HB HG2
              have Y2 := fun n => Y.below (bDrew (Below.refl wr.heap.size wr) n)
              go_wp2_with fail
              go_quiet (fail)
              go_wp2_with fail
              go_roundw
              case rel => exact ⟨k + 1, by omega, by go_num, HG3, Y2 _⟩
              case measure => simp [intOf]; omega
          · obtain rfl : k = i := by omega
            have HG := Lib.hid (hg.out.next hg2.out)
            clear hg hg2
            go_wp2_with fail
            go_roundw
            case rel => exact ⟨k + 1, by omega, by go_num, HG, Y⟩
            case measure => simp [intOf]; omega
      · obtain rfl : i = e.ns.length := by omega
        have HH := Lib.hid (HH0.out (twins_no hg.out))
        clear hg HT HH0
        go_wp2_with fail
        clear c5 c6
        go_loopw [5] (fun iv wr => ∃ i : Nat, i ≤ e.ks.length ∧ iv = .int .i64 i ∧ Hid (∀ k, k < i → ∀ e', G.Is e.ks k e' → e'.any G.dbl = false) ∧ Eb w wr e) (fun iv _ => e.ks.length - (intOf iv).toNat)
        case atStart => exact ⟨0, Nat.zero_le _, rfl, Lib.hid (fun k hk => absurd hk (Nat.not_lt_zero _)), Y⟩
        case round =>
          clear Y
          obtain ⟨i, hi, rfl, hg, Y⟩ := hrel
          have c6 := Y.c6
          rw [hA.out] at c6
          have b3 := Y.bel
          by_cases hlt : i < e.ks.length
          · obtain ⟨ab, off, k, rfl, hab, ⟨d0, d1, d2, d3, d4, d5, d6⟩, his, hkin⟩ := (hl.below Y.bel).at_ hlt
            have HI := Lib.hid (IH.out k his.mem)
            have hk2 := Y.kid hkin
            cases hb2 : k.any G.dbl with
            | true =>
              have HQ : Hid (true = z) := Lib.hid (by rw [← HZ.out, G.any_hit his hb2])
              have HB2 := Lib.hid hb2
              clear hb2 hkin hg
              go_wp2_with fail
              refine (HI.out _ hk2).mono ?_
              rintro r w2 ⟨rfl, b2⟩
              rw [HB2.out]
              go_wp2_with fail
              go_ret
              exact ⟨ret_bool HQ.out, bTrans b3 b2⟩
            | false =>
              have HG : Hid (∀ k, k < i + 1 → ∀ e', G.Is e.ks k e' → e'.any G.dbl = false) := Lib.hid (G.all_next (p := G.any G.dbl) hg.out his hb2)
              have HB2 := Lib.hid hb2
              clear hb2 hkin hg
              go_wp2_with fail
              refine (HI.out _ hk2).mono ?_
              rintro r w2 ⟨rfl, b2⟩
              rw [HB2.out]
              have Y2 := Y.below b2
              go_wp2_with fail
              go_roundw
              case rel => exact ⟨i + 1, by omega, by go_num, HG, Y2⟩
              case measure => simp [intOf]; omega
          · obtain rfl : i = e.ks.length := by omega
            have HQ : Hid (false = z) := Lib.hid (by rw [← HZ.out, G.any_none HH.out hg.out])
            go_wp2_with fail
            go_ret
            exact ⟨ret_bool HQ.out, b3⟩
  · have HH : Hid (G.dbl e = false) := Lib.hid (by unfold G.dbl; rw [show (e.kd == 3) = false by simpa using h3]; rfl)
    have q3 : (e.kd == 3) = false := by simpa using h3
    clear h3
    go_enter Tryz.func43, Tryz.ntmps43
    go_wp2_with fail
    clear c5 c6 d0 b1
    go_loopw [5] (fun iv wr => ∃ i : Nat, i ≤ e.ks.length ∧ iv = .int .i64 i ∧ Hid (∀ k, k < i → ∀ e', G.Is e.ks k e' → e'.any G.dbl = false) ∧ Eb w wr e) (fun iv _ => e.ks.length - (intOf iv).toNat)
    case atStart => exact ⟨0, Nat.zero_le _, rfl, Lib.hid (fun k hk => absurd hk (Nat.not_lt_zero _)), X⟩
    case round =>
      clear X
      obtain ⟨i, hi, rfl, hg, Y⟩ := hrel
      have c6 := Y.c6
      rw [hA.out] at c6
      have b3 := Y.bel
      by_cases hlt : i < e.ks.length
      · obtain ⟨ab, off, k, rfl, hab, ⟨d0, d1, d2, d3, d4, d5, d6⟩, his, hkin⟩ := (hl.below Y.bel).at_ hlt
        have HI := Lib.hid (IH.out k his.mem)
        have hk2 := Y.kid hkin
        cases hb2 : k.any G.dbl with
        | true =>
          have HQ : Hid (true = z) := Lib.hid (by rw [← HZ.out, G.any_hit his hb2])
          have HB2 := Lib.hid hb2
          clear hb2 hkin hg
          go_wp2_with fail
          refine (HI.out _ hk2).mono ?_
          rintro r w2 ⟨rfl, b2⟩
          rw [HB2.out]
          go_wp2_with fail
          go_ret
          exact ⟨ret_bool HQ.out, bTrans b3 b2⟩
        | false =>
          have HG : Hid (∀ k, k < i + 1 → ∀ e', G.Is e.ks k e' → e'.any G.dbl = false) := Lib.hid (G.all_next (p := G.any G.dbl) hg.out his hb2)
          have HB2 := Lib.hid hb2
          clear hb2 hkin hg
          go_wp2_with fail
          refine (HI.out _ hk2).mono ?_
          rintro r w2 ⟨rfl, b2⟩
          rw [HB2.out]
          have Y2 := Y.below b2
          go_wp2_with fail
          go_roundw
          case rel => exact ⟨i + 1, by omega, by go_num, HG, Y2⟩
          case measure => simp [intOf]; omega
      · obtain rfl : i = e.ks.length := by omega
        have HQ : Hid (false = z) := Lib.hid (by rw [← HZ.out, G.any_none HH.out hg.out])
        go_wp2_with fail
        go_ret
        exact ⟨ret_bool HQ.out, b3⟩
end Go.Proofs.YtlifnabeilnblaaGreatDoor
/- Walks: count of the reference. -/
namespace Go.Proofs.YtlifnabeilnblaaGreatDoor
open Go.RowKit Go.Sort
set_option linter.unusedVariables false

/-- the contract of the number of scalars -/
def CnE (e : G) : Prop := ∀ w : World, G.In w w.heap.size e → e.any G.badA = false → e.nodes ≤ 1000000 → Calls Tryz.prog 44 #[e.val] w fun r w' => r = .returned (.int .i64 e.cnt) ∧ Below w.heap.size w w'
set_option maxRecDepth 100000 in
set_option maxHeartbeats 1000000 in
theorem rcount_any (e : G) : CnE e := by
  induction e using G.ind with
  | h e ih =>
  intro w hin hbad hnd
  have IH := Lib.hid ih
  have hl := hin.l
  have hlen := hin.nd.len
  have hkl := ks_len e.ks
  have hne := G.nodes_eq e
  have HB := Lib.hid (show (G.badA e = false) ∧ ∀ k ∈ e.ks, k.any G.badA = false by
    rw [G.any_eq, Bool.or_eq_false_iff, G.anyL_false] at hbad; exact hbad)
  have HC := Lib.hid (G.cnt_eq e)
  have X := Eb.start w e 26
  have d0 := X.be.c 0 (show e.box[0]? = some (.int .i64 e.kd) from rfl)
  obtain ⟨A, hA⟩ : ∃ A, Hid (e.ad = A) := ⟨_, Lib.hid rfl⟩
  rw [hA.out] at hl
  clear ih hbad
  by_cases h2 : e.kd = 2
  · have hb := HB.out.1
    unfold G.badA at hb
    rw [h2] at hb
    simp at hb
    have hlt : 0 < e.ks.length := List.length_pos_iff.2 hb.1
    have hs := hb.2
    obtain ⟨s, hse⟩ : ∃ s, Hid (e.sz = s) := ⟨_, Lib.hid rfl⟩
    rw [hse.out] at hs
    have hcl := hl.below X.bel
    obtain ⟨ab, off, k, rfl, hab, ⟨d0', d1, d2, d3, d4, d5, d6⟩, his, hkin⟩ := hcl.at_ hlt
    rw [Nat.zero_mul, Nat.add_zero] at d0' d1 d2 d3 d4 d5 d6
    have HI := Lib.hid (IH.out k his.mem)
    have hk2 := X.kid hkin
    have hkbad := HB.out.2 k his.mem
    have hkb := G.cnt_bd k hkbad
    have hkn := nodes_kid his
    obtain ⟨q, hq⟩ : ∃ q, Hid (k.cnt = q) := ⟨_, Lib.hid rfl⟩
    rw [hq.out] at hkb
    have hmul : 0 ≤ s * q ∧ s * q ≤ 34603008 := ⟨Int.mul_nonneg hs.1 hkb.1, by
      have := Int.mul_le_mul hs.2 hkb.2 hkb.1 (by decide : (0 : Int) ≤ 1048576)
      omega⟩
    obtain ⟨z, hz⟩ : ∃ z, Hid (s * q = z) := ⟨_, Lib.hid rfl⟩
    have HR : Hid (min z 33 = e.cnt) := Lib.hid (by
      rw [HC.out, if_pos h2, hse.out]
      have : G.cnt.cntH e.ks = q := by
        obtain ⟨h0, hk0⟩ := his.eq
        rw [← hq.out, ← hk0]
        exact G.cntH_at h0
      rw [this, hz.out])
    rw [hz.out] at hmul
    have e1 : IntKind.i64.wrap (s * q) = z := by rw [hz.out]; exact IntWalk.i64_in _ (by omega)
    rw [h2] at d0
    have c3 := X.be.c 3 (show e.box[3]? = some (.int .i64 e.sz) from rfl)
    rw [hse.out] at c3
    have c6 := X.c6
    rw [hA.out] at c6
    have hkk : Hid (e.kd = 2) := Lib.hid h2
    clear h2 hb hs HC hcl hkin HB IH hkb
    go_enter Tryz.func44, Tryz.ntmps44
    go_wp2_with fail
    have b0 : Below (w.alloc (.cells e.box 26)).heap.size (w.alloc (.cells e.box 26)) (w.alloc (.cells e.box 26)).drew := (Below.refl _ _).drew
    go_region_held3 (fun w' => w'.cell? ⟨w.heap.size, 3, none⟩ = some (.int .i64 s) ∧ w'.cell? ⟨w.heap.size, 6, none⟩ = some (.slice (some ⟨ab, off, none⟩) e.ks.length e.cap)
        ∧ w'.cell? ⟨ab, off, none⟩ = some (.int .i64 k.kd) ∧ w'.cell? ⟨ab, off + 1, none⟩ = some (.int .i64 k.lo) ∧ w'.cell? ⟨ab, off + 2, none⟩ = some (.int .i64 k.hi) ∧ w'.cell? ⟨ab, off + 3, none⟩ = some (.int .i64 k.sz)
        ∧ w'.cell? ⟨ab, off + 4, none⟩ = some (.string k.nm) ∧ w'.cell? ⟨ab, off + 5, none⟩ = some (.slice k.na k.ns.length k.nc) ∧ w'.cell? ⟨ab, off + 6, none⟩ = some (.slice k.ad k.ks.length k.cap))
      (first | exact ⟨c3, c6, d0', d1, d2, d3, d4, d5, d6⟩ | exact kg)
      ((go_at_call 44; refine (HI.out _ (hk2.at b0) hkbad (by omega)).mono ?_; rintro r w2 ⟨rfl, b2⟩; rw [hq.out]; have b4 := bTrans b0 b2; have Y2 := X.below b4; have hf := fun (j : Nat) (v : Value) (h : (w.alloc (.cells e.box 26)).cell? ⟨ab, j, none⟩ = some v) => (b4.cell (p := ⟨ab, j, none⟩) (show ab < (w.alloc (.cells e.box 26)).heap.size from Nat.lt_of_lt_of_le hab X.bel.size)).trans h; have kg := And.intro ((b4.cell (p := ⟨w.heap.size, 3, none⟩) X.be.lt).trans c3) (And.intro ((b4.cell (p := ⟨w.heap.size, 6, none⟩) X.be.lt).trans c6) (And.intro (hf _ _ d0') (And.intro (hf _ _ d1) (And.intro (hf _ _ d2) (And.intro (hf _ _ d3) (And.intro (hf _ _ d4) (And.intro (hf _ _ d5) (hf _ _ d6)))))))))) 
    have b5 := Y2.bel
    have d0n := Y2.be.c 0 (show e.box[0]? = some (.int .i64 e.kd) from rfl)
    rw [hkk.out] at d0n
    by_cases hz3 : z ≤ 32
    · have HR2 : Hid (z = e.cnt) := Lib.hid (by rw [← HR.out]; omega)
      clear HR
      go_wp2_with fail
      go_ret
      exact ⟨ret_int HR2.out, b5⟩
    · have HR2 : Hid (33 = e.cnt) := Lib.hid (by rw [← HR.out]; omega)
      clear HR
      go_wp2_with fail
      go_ret
      exact ⟨ret_int HR2.out, b5⟩
  by_cases h3 : e.kd = 3
  · have HC3 : Hid (e.cnt = min (G.cnt.cntL e.ks) 33) := Lib.hid (by rw [HC.out, if_neg h2, if_pos h3])
    rw [h3] at d0
    have hkk : Hid (e.kd = 3) := Lib.hid h3
    have c6 := X.c6
    rw [hA.out] at c6
    clear h2 h3 HC
    go_enter Tryz.func44, Tryz.ntmps44
    go_wp2_with fail
    clear c6 d0
    go_loopw [3, 4] (fun nv iv wr => ∃ (i : Nat) (z : Int), i ≤ e.ks.length ∧ iv = .int .i64 i ∧ nv = .int .i64 z ∧ Hid (z = G.cnt.cntL (e.ks.take i)) ∧ 0 ≤ z ∧ z ≤ 33 * i ∧ Eb w wr e) (fun _ iv _ => e.ks.length - (intOf iv).toNat)
    case atStart => exact ⟨0, 0, Nat.zero_le _, rfl, rfl, Lib.hid (by simp [G.cnt.cntL]), by omega, by omega, X⟩
    case round =>
      clear X
      obtain ⟨i, z, hi, rfl, rfl, hz, hz0, hz1, Y⟩ := hrel
      by_cases hlt : i < e.ks.length
      · obtain ⟨ab, off, k, rfl, hab, ⟨d0, d1, d2, d3, d4, d5, d6⟩, his, hkin⟩ := (hl.below Y.bel).at_ hlt
        have HI := Lib.hid (IH.out k his.mem)
        have hk2 := Y.kid hkin
        have c6 := Y.c6
        rw [hA.out] at c6
        have hkbad := HB.out.2 k his.mem
        have hkb := G.cnt_bd k hkbad
        have hkn := nodes_kid his
        obtain ⟨q, hq⟩ : ∃ q, Hid (k.cnt = q) := ⟨_, Lib.hid rfl⟩
        rw [hq.out] at hkb
        have HM : Hid (z + q = G.cnt.cntL (e.ks.take (i + 1))) := Lib.hid (by rw [his.take, G.cntL_snoc, hz.out, hq.out])
        have e1 : IntKind.i64.wrap (z + q) = z + q := IntWalk.i64_in _ (by omega)
        clear hkin
        go_wp2_with fail
        refine (HI.out _ hk2 hkbad (by omega)).mono ?_
        rintro r w2 ⟨rfl, b2⟩
        rw [hq.out]
        have Y2 := Y.below b2
        clear hkbad hkn
        go_wp2_with fail
        go_roundw
        case rel => exact ⟨i + 1, z + q, by omega, by go_num, rfl, HM, by omega, by omega, Y2⟩
        case measure => simp [intOf]; omega
      · obtain rfl : i = e.ks.length := by omega
        have HR : Hid (min z 33 = e.cnt) := Lib.hid (by rw [HC3.out, hz.out, List.take_length])
        have c6 := Y.c6
        rw [hA.out] at c6
        have b2 := Y.bel
        by_cases hz3 : z ≤ 32
        · have HR2 : Hid (z = e.cnt) := Lib.hid (by rw [← HR.out]; omega)
          clear HR
          go_wp2_with fail
          go_ret
          exact ⟨ret_int HR2.out, b2⟩
        · have HR2 : Hid (33 = e.cnt) := Lib.hid (by rw [← HR.out]; omega)
          clear HR
          go_wp2_with fail
          go_ret
          exact ⟨ret_int HR2.out, b2⟩
  · have HR : Hid (min 1 33 = e.cnt) := Lib.hid (by rw [HC.out, if_neg h2, if_neg h3])
    have b2 := X.bel
    have q2 : (e.kd == 2) = false := by simpa using h2
    have q3 : (e.kd == 3) = false := by simpa using h3
    clear h2 h3
    go_enter Tryz.func44, Tryz.ntmps44
    go_wp2_with fail
    go_ret
    exact ⟨ret_int HR.out, b2⟩
end Go.Proofs.YtlifnabeilnblaaGreatDoor
/- Walks: Check of the reference. -/
namespace Go.Proofs.YtlifnabeilnblaaGreatDoor
open Go.RowKit Go.Sort
set_option linter.unusedVariables false

set_option maxRecDepth 100000 in
set_option maxHeartbeats 1000000 in
theorem rcheck_any (e : G) (w : World) (hin : G.In w w.heap.size e) (hn : e.nodes ≤ 1000000) :
    Calls Tryz.prog 24 #[e.val] w fun r w' => r = .returned (.int .i64 (G.chkT nmB e)) ∧ Below w.heap.size w w' := by
  have X := Eb.start w e 26
  have C1 := Lib.hid (fun W (i : Eb w W e) => xcheck_any e W (hin.at i.bel) hn)
  have C2 := Lib.hid (fun W (i : Eb w W e) => rnamed_any e W (hin.at i.bel))
  have C4 := Lib.hid (fun W (i : Eb w W e) => rdoubled_any e W (hin.at i.bel))
  have C3 := Lib.hid (fun (ok : G.Ok nmB e) W (i : Eb w W e) => rcount_any e W (hin.at i.bel) (G.no_badA ok.mal ok.out) hn)
  have HE : Hid (G.chkT nmB e = if G.chk nmB e ≠ 0 then G.chk nmB e else if e.any G.isName then 7 else if e.any G.dbl then 8 else if 32 < e.cnt then 4 else 0) := Lib.hid (G.chkT_rchkT e)
  have HK : Hid (G.chk nmB e = 0 → G.Ok nmB e) := Lib.hid G.chk_ok.1
  obtain ⟨c, hc⟩ : ∃ c, Hid (G.chk nmB e = c) := ⟨_, Lib.hid rfl⟩
  rw [hc.out] at C1 HE HK
  obtain ⟨n, hnn⟩ : ∃ n, Hid (e.cnt = n) := ⟨_, Lib.hid rfl⟩
  rw [hnn.out] at C3 HE
  obtain ⟨z, hz⟩ : ∃ z, Hid (G.chkT nmB e = z) := ⟨_, Lib.hid rfl⟩
  rw [hz.out] at HE ⊢
  clear hc hz hnn
  obtain ⟨k0, k1, k2, k3, k4, k5, k6⟩ := bx7 X.be
  go_enter Tryz.func24, Tryz.ntmps24
  go_wp2_with fail
  refine (C1.out _ X).mono ?_
  rintro r w1 ⟨rfl, b1⟩
  replace X := X.below b1
  clear k0 k1 k2 k3 k4 k5 k6 b1
  obtain ⟨k0, k1, k2, k3, k4, k5, k6⟩ := bx7 X.be
  by_cases h0 : c = 0
  · have q0 : (c != 0) = false := by rw [h0]; rfl
    have HE2 : Hid (z = if e.any G.isName then 7 else if e.any G.dbl then 8 else if 32 < n then 4 else 0) := Lib.hid (by rw [HE.out, if_neg (by rw [h0]; simp)])
    have ok := Lib.hid (HK.out h0)
    clear HE HK h0
    go_wp2_with fail
    refine (C2.out _ X).mono ?_
    rintro r w2 ⟨rfl, b1⟩
    replace X := X.below b1
    clear k0 k1 k2 k3 k4 k5 k6 b1
    obtain ⟨k0, k1, k2, k3, k4, k5, k6⟩ := bx7 X.be
    cases hn : e.any G.isName with
    | true =>
      have HR : Hid (7 = z) := Lib.hid (by rw [HE2.out, hn]; rfl)
      have b2 := X.bel
      clear HE2 hn
      go_wp2_with fail
      go_ret
      exact ⟨ret_int HR.out, b2⟩
    | false =>
      have HE3 : Hid (z = if e.any G.dbl then 8 else if 32 < n then 4 else 0) := Lib.hid (by rw [HE2.out, hn]; rfl)
      clear HE2 hn
      go_wp2_with fail
      refine (C4.out _ X).mono ?_
      rintro r w3 ⟨rfl, b1⟩
      replace X := X.below b1
      clear k0 k1 k2 k3 k4 k5 k6 b1
      obtain ⟨k0, k1, k2, k3, k4, k5, k6⟩ := bx7 X.be
      cases hd : e.any G.dbl with
      | true =>
        have HR : Hid (8 = z) := Lib.hid (by rw [HE3.out, hd]; rfl)
        have b2 := X.bel
        clear HE3 hd
        go_wp2_with fail
        go_ret
        exact ⟨ret_int HR.out, b2⟩
      | false =>
        have HE4 : Hid (z = if 32 < n then 4 else 0) := Lib.hid (by rw [HE3.out, hd]; rfl)
        clear HE3 hd
        go_wp2_with fail
        refine (C3.out ok.out _ X).mono ?_
        rintro r w4 ⟨rfl, b1⟩
        have b2 := bTrans X.bel b1
        by_cases h32 : 32 < n
        · have HR : Hid (4 = z) := Lib.hid (by rw [HE4.out, if_pos h32])
          clear HE4
          go_wp2_with fail
          go_ret
          exact ⟨ret_int HR.out, b2⟩
        · have HR : Hid (0 = z) := Lib.hid (by rw [HE4.out, if_neg h32])
          clear HE4
          go_wp2_with fail
          go_ret
          exact ⟨ret_int HR.out, b2⟩
  · have q0 : (c != 0) = true := by simpa using h0
    have HR : Hid (c = z) := Lib.hid (by rw [HE.out, if_pos h0])
    have b2 := X.bel
    clear HE HK h0
    go_wp2_with fail
    go_ret
    exact ⟨ret_int HR.out, b2⟩
end Go.Proofs.YtlifnabeilnblaaGreatDoor
