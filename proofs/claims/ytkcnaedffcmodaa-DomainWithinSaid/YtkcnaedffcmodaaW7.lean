/- Walks: extended. -/
import Derived.Test.YtkcnaedffcmodaaR5
namespace Go.Proofs.Ytkcnaedffcmodaa
open Go.RowKit Go.Maps
set_option linter.unusedVariables false

/-- numbers that are not negative -/
def nats (l : List Nat) : List Int := l.map fun (x : Nat) => (x : Int)
theorem nats_length (l : List Nat) : (nats l).length = l.length := by unfold nats; simp
theorem nats_append (a b : List Nat) : nats (a ++ b) = nats a ++ nats b := by unfold nats; simp
theorem nats_get {l : List Nat} {i : Nat} (h : i < l.length) : (nats l).getD i 0 = ((l[i] : Nat) : Int) := by
  unfold nats
  rw [List.getD_eq_getElem?_getD, List.getElem?_map, List.getElem?_eq_getElem h]; rfl
namespace Kd
/-- what becomes of one number: n values from f on -/
def seg (q f n r : Nat) : List Nat := (List.range n).map fun j => r * q + (f + j)
def ext (rs : List Nat) (q f n : Nat) : List Nat := rs.flatMap (seg q f n)
theorem seg_length {q f n r : Nat} : (seg q f n r).length = n := by unfold seg; simp
theorem seg_succ {q f n r : Nat} : seg q f (n + 1) r = seg q f n r ++ [r * q + (f + n)] := by unfold seg; rw [List.range_succ, List.map_append]; rfl
theorem ext_length {rs : List Nat} {q f n : Nat} : (ext rs q f n).length = rs.length * n := by
  induction rs with
  | nil => simp [ext]
  | cons r rs ih =>
    unfold ext at ih ⊢
    rw [List.flatMap_cons, List.length_append, seg_length, ih, List.length_cons, Nat.succ_mul]; omega
theorem ext_snoc {rs : List Nat} {r q f n : Nat} : ext (rs ++ [r]) q f n = ext rs q f n ++ seg q f n r := by unfold ext; rw [List.flatMap_append]; simp
end Kd
theorem nats_bd {l : List Nat} (h : ∀ x ∈ l, x ≤ 9223372036854775807) : ∀ x ∈ nats l, -9223372036854775808 ≤ x ∧ x ≤ 9223372036854775807 := fun x hx => by
  unfold nats at hx
  obtain ⟨y, hy, rfl⟩ := List.mem_map.1 hx
  have := h y hy
  omega

set_option maxRecDepth 100000 in
set_option maxHeartbeats 2000000 in
theorem ext_any (A : Option Addr) (c : Nat) (rs : List Nat) (l : Int) (q f n : Nat) (fr tu : Int) (w : World) (h : Ints w w.heap.size A (nats rs)) (hn : rs.length ≤ 4096) (hr : ∀ r ∈ rs, r ≤ 4096) (hl : -1048576 ≤ l ∧ l + q ≤ 1048577) (hf : f + n ≤ q) (hfr : fr = l + f) (hto : tu = l + f + n - 1) :
    Calls Try.prog 31 #[.slice A rs.length c, .agg #[.int .i64 l, .int .i64 (q : Nat)], .int .i64 fr, .int .i64 tu] w (IntsRes (nats (Kd.ext rs q f n)) w) := by
  obtain ⟨i0, hi0, hz0, hz1, hz2⟩ := info_parts infoInt
  have b0 := newB1 w (.cells #[.int .i64 l, .int .i64 (q : Nat)] 62)
  have t0 := Two.new_ w (.int .i64 l) (.int .i64 (q : Nat)) 62
  have h1 := h.at b0
  have hq2 : q ≤ 2097153 := by omega
  have HR := Lib.hid hr
  have HF := Lib.hid hfr
  have HTO := Lib.hid hto
  have hfrb : -1048576 ≤ fr ∧ fr ≤ 1048577 := by omega
  have htob : -1048577 ≤ tu ∧ tu ≤ 1048577 := by omega
  clear hr hfr hto h
  go_enter Try.func31, Try.ntmps31
  go_wp2_with fail
  revert b0 t0 h1
  generalize w.alloc (.cells #[.int .i64 l, .int .i64 (q : Nat)] 62) = w1
  intro b0 t0 h1
  have hg0 : w.heap.size < w1.heap.size := t0.lt
  go_loopw [9, 15] (fun v iv wr => ∃ i : Nat, i ≤ rs.length ∧ iv = .int .i64 i ∧ OwInv w1 wr v (nats (Kd.ext (rs.take i) q f n))) (fun _ iv _ => rs.length - (intOf iv).toNat)
  case atStart => exact ⟨0, Nat.zero_le _, rfl, OwInv.nil w1⟩
  case round =>
    obtain ⟨i, hi, rfl, I⟩ := hrel
    by_cases hlt : i < rs.length
    · obtain ⟨bb, off, x, rfl, hbb, cx, hx⟩ := (h1.below I.bel).at_ (k := i) (by rw [nats_length]; exact hlt)
      have hxr : x = ((rs[i] : Nat) : Int) := by rw [hx.out.1, nats_get hlt]
      obtain ⟨r, hrr⟩ : ∃ r, Hid (rs[i] = r) := ⟨_, Lib.hid rfl⟩
      rw [hrr.out] at hxr
      subst hxr
      have hr4 : r ≤ 4096 := by rw [← hrr.out]; exact HR.out _ (List.getElem_mem hlt)
      obtain ⟨m, hm⟩ : ∃ m : Nat, Hid (m = r * q) := ⟨_, Lib.hid rfl⟩
      have hmb : m ≤ 4096 * 2097153 := by rw [hm.out]; exact Nat.mul_le_mul hr4 hq2
      have HT : Hid (Kd.ext (rs.take (i + 1)) q f n = Kd.ext (rs.take i) q f n ++ Kd.seg q f n r) := Lib.hid (by
        rw [List.take_succ_eq_append_getElem hlt, Kd.ext_snoc, hrr.out])
      have hel : Hid ((Kd.ext (rs.take i) q f n).length ≤ 4096 * 2097153) := Lib.hid (by
        rw [Kd.ext_length, List.length_take]
        exact Nat.mul_le_mul (by omega) (by omega))
      clear hx
      go_wp2_with fail
      clear cx hbb
      go_loopw [9, 12] (fun v yv wr => ∃ (j : Nat) (y : Int), j ≤ n ∧ yv = .int .i64 y ∧ Hid (y = l + f + j) ∧ OwInv w1 wr v (nats (Kd.ext (rs.take i) q f n ++ Kd.seg q f j r))) (fun _ yv _ => (tu + 1 - intOf yv).toNat)
      case atStart => exact ⟨0, fr, Nat.zero_le _, rfl, Lib.hid (by rw [HF.out]; simp), by rw [show Kd.seg q f 0 r = [] from rfl, List.append_nil]; exact I⟩
      case round =>
        clear I
        obtain ⟨j, y, hj, rfl, hy, I⟩ := hrel
        have hyj := hy.out
        have hto2 := HTO.out
        by_cases hjn : j < n
        · have hyt : y ≤ tu := by omega
          have hyb : -1048576 ≤ y ∧ y ≤ 1048577 := by omega
          obtain ⟨s, hs⟩ : ∃ s : Nat, Hid (s = r * q + (f + j)) := ⟨_, Lib.hid rfl⟩
          have hms : (m : Int) + y - l = (s : Int) := by have h1 := hs.out; have h2 := hm.out; omega
          have HG : Hid (nats (Kd.ext (rs.take i) q f n ++ Kd.seg q f (j + 1) r) = nats (Kd.ext (rs.take i) q f n ++ Kd.seg q f j r) ++ [(s : Int)]) := Lib.hid (by
            rw [Kd.seg_succ, ← List.append_assoc, nats_append, ← hs.out]; rfl)
          have hln : (nats (Kd.ext (rs.take i) q f n ++ Kd.seg q f j r)).length ≤ 4096 * 2097153 + 2097153 := by
            rw [nats_length, List.length_append, Kd.seg_length]; have := hel.out; omega
          obtain ⟨u, hu⟩ : ∃ u : Int, Hid ((m : Int) + y = u) := ⟨_, Lib.hid rfl⟩
          have hsb : (s : Int) ≤ 9223372036854775807 := by omega
          have hw2 : wrap64 ((m : Int) + y) = u := by rw [← hu.out]; exact IntWalk.wrap64_in _ (by omega)
          have hw3 : wrap64 (u - l) = (s : Int) := by rw [← hms, ← hu.out]; exact IntWalk.wrap64_in _ (by omega)
          have hmul : wrap64 ((r : Int) * (q : Int)) = (m : Int) := by
            rw [show (r : Int) * (q : Int) = (m : Int) by rw [hm.out]; simp]
            exact IntWalk.wrap64_in _ (by omega)
          revert I HG hln
          generalize nats (Kd.ext (rs.take i) q f n ++ Kd.seg q f j r) = zs
          intro I HG hln
          have t5 := t0.below I.bel hg0
          have d0 := t5.c0
          have d1 := t5.c1
          have hbs := I.bel.size
          have HB := Lib.hid hyj
          clear hyj hto2 hms hsb
          go_wp2_with (at_builtin; refine wpList_append_own _ rfl _ _ 29 rfl w1.heap.size 3 i0 (.int .i64 0) 1 8 Try.underlying29 hi0 hz0 hz1 hz2 rfl (by decide) _ _ _ rfl (I.own.alloc _) ⟨wr.heap.size, 0, none⟩ 1 1 [.int .i64 (s : Int)] rfl rfl ?c1 ?c2 ?c3 ?c4 ?c5 ?_)
          case c1 => exact cell_one_new _ _ _
          case c2 => intro u hu; simp at hu; subst hu; rfl
          case c3 => clear hmul hw2 hw3; unfold maxLen; omega
          case c4 => clear hmul hw2 hw3; omega
          case c5 => clear hmul hw2 hw3; simp; omega
          intro v' w3 hown' hgrow _
          have I3 := OwInv.grown I hown' hgrow
          rw [← HG.out] at I3
          clear hmul hw2 hw3 d0 d1 t5 hown' hgrow I
          go_wp2_with fail
          go_roundw
          case rel => exact ⟨j + 1, y + 1, by omega, rfl, Lib.hid (by have := HB.out; omega), I3⟩
          case measure => simp [intOf]; omega
        · obtain rfl : j = n := by omega
          have hyt : ¬ y ≤ tu := by omega
          rw [← HT.out] at I
          clear hyj hto2
          go_wp2_with fail
          go_roundw
          case rel => exact ⟨i + 1, by omega, by go_num, I⟩
          case measure => simp [intOf]; omega
    · obtain rfl : i = rs.length := by omega
      rw [List.take_length] at I
      obtain ⟨A', c', rfl, hI, hB⟩ := I.res (nats_bd fun x hx => by
        unfold Kd.ext Kd.seg at hx
        obtain ⟨r, hr, hx⟩ := List.mem_flatMap.1 hx
        obtain ⟨j, hj, rfl⟩ := List.mem_map.1 hx
        have h1 := HR.out r hr
        have h2 : r * q ≤ 4096 * 2097153 := Nat.mul_le_mul h1 hq2
        have := List.mem_range.1 hj
        omega)
      go_wp2_with fail
      go_ret
      exact ⟨A', c', rfl, hI, bTrans b0 hB⟩
end Go.Proofs.Ytkcnaedffcmodaa
