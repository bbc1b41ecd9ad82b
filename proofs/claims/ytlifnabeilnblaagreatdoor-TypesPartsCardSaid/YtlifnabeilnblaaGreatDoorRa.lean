/- Walks: the reference's counts over a type. -/
import Derived.Test.YtlifnabeilnblaaGreatDoorRp
import Derived.Test.YtlifnabeilnblaaGreatDoorDe
namespace Go.Proofs.YtlifnabeilnblaaGreatDoor
open Go.RowKit Go.Sort
set_option linter.unusedVariables false

/-- the contract of the number of nodes -/
def NdE (e : G) : Prop := ∀ w : World, G.In w w.heap.size e → e.nodes ≤ 1000000 → Calls Tryz.prog 80 #[e.val] w fun r w' => r = .returned (.int .i64 (e.nodes : Nat)) ∧ Below w.heap.size w w'
set_option maxRecDepth 100000 in
set_option maxHeartbeats 1000000 in
theorem rnodes_any (e : G) : NdE e := by
  induction e using G.ind with
  | h e ih =>
  intro w hin hmx
  have IH := Lib.hid ih
  have hl := hin.l
  have hlen := hin.nd.len
  have HN := Lib.hid (G.nodes_eq e)
  have X := Eb.start w e 26
  obtain ⟨A, hA⟩ : ∃ A, Hid (e.ad = A) := ⟨_, Lib.hid rfl⟩
  rw [hA.out] at hl
  clear ih
  go_enter Tryz.func80, Tryz.ntmps80
  go_wp2_with fail
  go_loopw [3, 4] (fun nv iv wr => ∃ i m : Nat, i ≤ e.ks.length ∧ iv = .int .i64 i ∧ nv = .int .i64 (m : Int) ∧ Hid (m = G.nodesL (e.ks.take i) + 1) ∧ m ≤ 1000000 ∧ Eb w wr e) (fun _ iv _ => e.ks.length - (intOf iv).toNat)
  case atStart => exact ⟨0, 1, Nat.zero_le _, rfl, rfl, Lib.hid (by simp [G.nodesL]), by omega, X⟩
  case round =>
    clear X
    obtain ⟨i, m, hi, rfl, rfl, hm, hm2, Y⟩ := hrel
    have c6 := Y.c6
    rw [hA.out] at c6
    by_cases hlt : i < e.ks.length
    · obtain ⟨ab, off, k, rfl, hab, ⟨d0, d1, d2, d3, d4, d5, d6⟩, his, hkin⟩ := (hl.below Y.bel).at_ hlt
      have HI := Lib.hid (IH.out k his.mem)
      have hk2 := Y.kid hkin
      have hs := G.nodes_at his
      obtain ⟨kn, hkn⟩ : ∃ kn, Hid (k.nodes = kn) := ⟨_, Lib.hid rfl⟩
      have hkb : k.nodes ≤ 1000000 := by have := HN.out; omega
      have HM : Hid (m + kn = G.nodesL (e.ks.take (i + 1)) + 1) := Lib.hid (by rw [his.take, G.nodesL_snoc, hm.out, hkn.out]; omega)
      have hm3 : m + kn ≤ 1000000 := by rw [hm.out, ← hkn.out]; have := HN.out; omega
      clear hkin hs
      go_wp2_with fail
      refine (HI.out _ hk2 hkb).mono ?_
      rintro r w2 ⟨rfl, b2⟩
      rw [hkn.out]
      clear hkb
      have Y2 := Y.below b2
      go_wp2_with fail
      go_roundw
      case rel => exact ⟨i + 1, m + kn, by omega, by go_num, by go_num, HM, hm3, Y2⟩
      case measure => simp [intOf]; omega
    · obtain rfl : i = e.ks.length := by omega
      have HR : Hid ((m : Int) = (e.nodes : Nat)) := Lib.hid (by rw [HN.out, hm.out, List.take_length])
      have b2 := Y.bel
      go_wp2_with fail
      go_ret
      exact ⟨ret_int HR.out, b2⟩

/-- the contract of the depth -/
def XdE (e : G) : Prop := ∀ w : World, G.In w w.heap.size e → e.dep ≤ 1000000 → Calls Tryz.prog 82 #[e.val] w fun r w' => r = .returned (.int .i64 (e.dep : Nat)) ∧ Below w.heap.size w w'
set_option maxRecDepth 100000 in
set_option maxHeartbeats 1000000 in
theorem rdepth_any (e : G) : XdE e := by
  induction e using G.ind with
  | h e ih =>
  intro w hin hmx
  have IH := Lib.hid ih
  have hl := hin.l
  have hlen := hin.nd.len
  have HD := Lib.hid (G.dep_eq e)
  have X := Eb.start w e 26
  obtain ⟨A, hA⟩ : ∃ A, Hid (e.ad = A) := ⟨_, Lib.hid rfl⟩
  rw [hA.out] at hl
  clear ih
  go_enter Tryz.func82, Tryz.ntmps82
  go_wp2_with fail
  go_loopw [3, 4] (fun nv iv wr => ∃ i m : Nat, i ≤ e.ks.length ∧ iv = .int .i64 i ∧ nv = .int .i64 (m : Int) ∧ Hid (m = G.depL (e.ks.take i)) ∧ m ≤ 1000000 ∧ Eb w wr e) (fun _ iv _ => e.ks.length - (intOf iv).toNat)
  case atStart => exact ⟨0, 0, Nat.zero_le _, rfl, rfl, Lib.hid (by simp [G.depL]), by omega, X⟩
  case round =>
    clear X
    obtain ⟨i, m, hi, rfl, rfl, hm, hm2, Y⟩ := hrel
    have c6 := Y.c6
    rw [hA.out] at c6
    by_cases hlt : i < e.ks.length
    · obtain ⟨ab, off, k, rfl, hab, ⟨d0, d1, d2, d3, d4, d5, d6⟩, his, hkin⟩ := (hl.below Y.bel).at_ hlt
      have HI := Lib.hid (IH.out k his.mem)
      have hk2 := Y.kid hkin
      have hs := G.depL_mem his.mem
      obtain ⟨kn, hkn⟩ : ∃ kn, Hid (k.dep = kn) := ⟨_, Lib.hid rfl⟩
      have hkb : k.dep ≤ 1000000 := by have := HD.out; omega
      have hkd : kn ≤ 1000000 := by rw [← hkn.out]; exact hkb
      have HM : Hid (max m kn = G.depL (e.ks.take (i + 1))) := Lib.hid (by rw [his.take, G.depL_snoc, hm.out, hkn.out])
      clear hkin hs
      go_wp2_with fail
      refine (HI.out _ hk2 hkb).mono ?_
      rintro r w2 ⟨rfl, b2⟩
      rw [hkn.out]
      clear hkb
      have Y2 := Y.below b2
      by_cases hgt : m < kn
      · have HM2 : Hid (kn = G.depL (e.ks.take (i + 1))) := Lib.hid (by rw [← HM.out]; omega)
        clear HM
        go_wp2_with fail
        go_roundw
        case rel => exact ⟨i + 1, kn, by omega, by go_num, rfl, HM2, hkd, Y2⟩
        case measure => simp [intOf]; omega
      · have HM2 : Hid (m = G.depL (e.ks.take (i + 1))) := Lib.hid (by rw [← HM.out]; omega)
        clear HM
        go_wp2_with fail
        go_roundw
        case rel => exact ⟨i + 1, m, by omega, by go_num, rfl, HM2, hm2, Y2⟩
        case measure => simp [intOf]; omega
    · obtain rfl : i = e.ks.length := by omega
      have HR : Hid ((m : Int) + 1 = (e.dep : Nat)) := Lib.hid (by rw [HD.out, hm.out, List.take_length]; rfl)
      have b2 := Y.bel
      go_wp2_with fail
      go_ret
      exact ⟨ret_int HR.out, b2⟩

end Go.Proofs.YtlifnabeilnblaaGreatDoor
