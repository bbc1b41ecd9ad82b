/- Walk: Parse of package cost. -/
import Derived.Test.YtmemkcaikajnnaaGreatDoorT3
import Derived.Test.YtmemkcaikajnnaaGreatDoorOf
import Derived.Lib.SplitLaws
namespace Go.Proofs.YtmemkcaikajnnaaGreatDoor
open Go.RowKit Go.Sort
set_option linter.unusedVariables false

namespace Kp
theorem list13 : ∀ l : List Int, l.length = 13 → ∃ c : C, l = c.list
  | [a, b, c, d, e, f, g, h, i, j, k, l, m], _ => ⟨⟨a, b, c, d, e, f, g, h, i, j, k, l, m⟩, rfl⟩
theorem trimB_len (t : List UInt8) (c : UInt8) : (Lib.trimB t c).length ≤ t.length := by
  unfold Lib.trimB Lib.trimLeftB Lib.trimRightB
  refine Nat.le_trans (dw_len _ _) ?_
  rw [List.length_reverse]
  refine Nat.le_trans (dw_len _ _) ?_
  rw [List.length_reverse]; exact Nat.le_refl _
theorem splitK_len (sep : List UInt8) : ∀ (k : Nat) (s p : List UInt8), p ∈ Lib.splitK sep 0 k s → p.length ≤ s.length := by
  intro k
  induction k with
  | zero => intro s p h; rw [List.mem_singleton.1 h]; exact Nat.le_refl _
  | succ k ih =>
    intro s p h
    unfold Lib.splitK at h
    split at h
    · rw [List.mem_singleton.1 h]; exact Nat.le_refl _
    · rcases List.mem_cons.1 h with h | h
      · rw [h, List.length_take]; omega
      · refine Nat.le_trans (ih _ _ h) ?_
        rw [List.length_drop]; omega
theorem parts_len {t p : List UInt8} (h : p ∈ parts t) : p.length ≤ t.length := splitK_len _ _ _ _ h
theorem splitB_parts (s : ByteArray) : (Lib.splitB ⟨#[44]⟩ 0 (Lib.countB s ⟨#[44]⟩) s).map bs = parts (bs s) := Lib.splitB_data ⟨#[44]⟩ 0 _ s
end Kp
/-- the model of what was read -/
def PaP (w : World) (t : List UInt8) (r : Ending) (w' : World) : Prop :=
  ∃ c : C, r = .returned (.tuple #[.agg c.box, .int .i64 (Kp.parseS t).1]) ∧ c.list = (Kp.parseS t).2 ∧ Below w.heap.size w w'
theorem PaP.zero {w w' : World} {t : List UInt8} {r : Ending} {k : Int} (h : Kp.parseS t = (k, Kp.zeros)) (hr : r = .returned (.tuple #[.agg #[.int .i64 0, .int .i64 0, .int .i64 0, .int .i64 0, .int .i64 0, .int .i64 0, .int .i64 0, .int .i64 0, .int .i64 0, .int .i64 0, .int .i64 0, .int .i64 0, .int .i64 0], .int .i64 k])) (hb : Below w.heap.size w w') : PaP w t r w' :=
  ⟨⟨0, 0, 0, 0, 0, 0, 0, 0, 0, 0, 0, 0, 0⟩, by rw [hr, h], by rw [h]; rfl, hb⟩
theorem PaP.ok {w w' : World} {t : List UInt8} {r : Ending} {c : C} (h : Kp.parseS t = (0, c.list)) (hr : r = .returned (.tuple #[.agg c.box, .int .i64 0])) (hb : Below w.heap.size w w') : PaP w t r w' :=
  ⟨c, by rw [hr, h], by rw [h], hb⟩
set_option maxRecDepth 100000 in
set_option maxHeartbeats 1000000 in
theorem parse_long (s : ByteArray) (w : World) (hs : 8192 < s.size) : Calls Tryz.prog 8 #[.string s] w (PaP w (bs s)) := by
  have h5 : Hid (Kp.parseS (bs s) = (5, Kp.zeros)) := Lib.hid (by unfold Kp.parseS; rw [if_pos (by rw [bs_length]; exact hs)])
  have z0 : (8192 : Int) < (s.size : Int) := by omega
  have hz := Blk.new_ w #[.int .i64 0, .int .i64 0, .int .i64 0, .int .i64 0, .int .i64 0, .int .i64 0, .int .i64 0, .int .i64 0, .int .i64 0, .int .i64 0, .int .i64 0, .int .i64 0, .int .i64 0] 23
  have bel := al1 w (.cells #[.int .i64 0, .int .i64 0, .int .i64 0, .int .i64 0, .int .i64 0, .int .i64 0, .int .i64 0, .int .i64 0, .int .i64 0, .int .i64 0, .int .i64 0, .int .i64 0, .int .i64 0] 23)
  clear hs
  go_enter Tryz.func8, Tryz.ntmps8
  go_upto_region 2 with (fail)
  generalize w.alloc (.cells #[.int .i64 0, .int .i64 0, .int .i64 0, .int .i64 0, .int .i64 0, .int .i64 0, .int .i64 0, .int .i64 0, .int .i64 0, .int .i64 0, .int .i64 0, .int .i64 0, .int .i64 0] 23) = w1 at hz bel ⊢
  have z0 : w1.cell? ⟨w.heap.size, 0, none⟩ = some (.int .i64 0) := hz.c 0 rfl
  have f0 := hz.fr 0
  have z1 : w1.cell? ⟨w.heap.size, 1, none⟩ = some (.int .i64 0) := hz.c 1 rfl
  have f1 := hz.fr 1
  have z2 : w1.cell? ⟨w.heap.size, 2, none⟩ = some (.int .i64 0) := hz.c 2 rfl
  have f2 := hz.fr 2
  have z3 : w1.cell? ⟨w.heap.size, 3, none⟩ = some (.int .i64 0) := hz.c 3 rfl
  have f3 := hz.fr 3
  have z4 : w1.cell? ⟨w.heap.size, 4, none⟩ = some (.int .i64 0) := hz.c 4 rfl
  have f4 := hz.fr 4
  have z5 : w1.cell? ⟨w.heap.size, 5, none⟩ = some (.int .i64 0) := hz.c 5 rfl
  have f5 := hz.fr 5
  have z6 : w1.cell? ⟨w.heap.size, 6, none⟩ = some (.int .i64 0) := hz.c 6 rfl
  have f6 := hz.fr 6
  have z7 : w1.cell? ⟨w.heap.size, 7, none⟩ = some (.int .i64 0) := hz.c 7 rfl
  have f7 := hz.fr 7
  have z8 : w1.cell? ⟨w.heap.size, 8, none⟩ = some (.int .i64 0) := hz.c 8 rfl
  have f8 := hz.fr 8
  have z9 : w1.cell? ⟨w.heap.size, 9, none⟩ = some (.int .i64 0) := hz.c 9 rfl
  have f9 := hz.fr 9
  have z10 : w1.cell? ⟨w.heap.size, 10, none⟩ = some (.int .i64 0) := hz.c 10 rfl
  have f10 := hz.fr 10
  have z11 : w1.cell? ⟨w.heap.size, 11, none⟩ = some (.int .i64 0) := hz.c 11 rfl
  have f11 := hz.fr 11
  have z12 : w1.cell? ⟨w.heap.size, 12, none⟩ = some (.int .i64 0) := hz.c 12 rfl
  have f12 := hz.fr 12
  have KK := Lib.hid (put13 hz ⟨0, 0, 0, 0, 0, 0, 0, 0, 0, 0, 0, 0, 0⟩)
  have BB := Lib.hid (below13 bel (show w.heap.size ≤ w.heap.size from Nat.le_refl _) ⟨0, 0, 0, 0, 0, 0, 0, 0, 0, 0, 0, 0, 0⟩)
  clear hz bel
  go_wp2_with fail
  replace KK := KK.out
  replace BB := BB.out
  (try dsimp only at KK BB)
  generalize (((((((((((((w1.setCell ⟨w.heap.size, 0, none⟩ (.int .i64 0)).setCell ⟨w.heap.size, 1, none⟩ (.int .i64 0)).setCell ⟨w.heap.size, 2, none⟩ (.int .i64 0)).setCell ⟨w.heap.size, 3, none⟩ (.int .i64 0)).setCell ⟨w.heap.size, 4, none⟩ (.int .i64 0)).setCell ⟨w.heap.size, 5, none⟩ (.int .i64 0)).setCell ⟨w.heap.size, 6, none⟩ (.int .i64 0)).setCell ⟨w.heap.size, 7, none⟩ (.int .i64 0)).setCell ⟨w.heap.size, 8, none⟩ (.int .i64 0)).setCell ⟨w.heap.size, 9, none⟩ (.int .i64 0)).setCell ⟨w.heap.size, 10, none⟩ (.int .i64 0)).setCell ⟨w.heap.size, 11, none⟩ (.int .i64 0)).setCell ⟨w.heap.size, 12, none⟩ (.int .i64 0)) = w9 at KK BB ⊢
  obtain ⟨r0, r1, r2, r3, r4, r5, r6, r7, r8, r9, r10, r11, r12⟩ := c13 KK
  refine bodyPost_ret (v := .tuple #[.agg #[.int .i64 0, .int .i64 0, .int .i64 0, .int .i64 0, .int .i64 0, .int .i64 0, .int .i64 0, .int .i64 0, .int .i64 0, .int .i64 0, .int .i64 0, .int .i64 0, .int .i64 0], .int .i64 5]) (by simp [results, Tryz.results8, go_sem, r0, r1, r2, r3, r4, r5, r6, r7, r8, r9, r10, r11, r12]) rfl ?_
  exact PaP.zero h5.out rfl BB
set_option maxRecDepth 100000 in
set_option maxHeartbeats 3000000 in
theorem parse_any (s : ByteArray) (w : World) (hT : Tk w.heap.size w) : Calls Tryz.prog 8 #[.string s] w (PaP w (bs s)) := by
  rcases Nat.lt_or_ge 8192 s.size with hs | hs
  · exact parse_long s w hs
  have hlen := bs_length s
  have z0 : ¬ (8192 : Int) < (s.size : Int) := by omega
  obtain ⟨P, hP⟩ : ∃ P, Hid (Kp.parseS (bs s) = P) := ⟨_, Lib.hid rfl⟩
  obtain ⟨T0, hT0⟩ : ∃ x, Hid (Lib.trimB (bs s) 32 = x) := ⟨_, Lib.hid rfl⟩
  have HPS : Hid (P = if T0 = [] then (0, Kp.zeros) else Kp.runS Kp.zeros Kp.falses (Kp.parts (bs s))) := Lib.hid (by rw [← hP.out, ← hT0.out]; unfold Kp.parseS; rw [if_neg (by omega)])
  have HTR := Lib.hid (fun (W : World) => (by have h := trimK s (by omega) W; rw [hT0.out] at h; exact h : Calls Tryz.prog 23 #[.string s, .string ⟨#[32]⟩] W fun e w' => e = .returned (.string (mkB T0)) ∧ Below W.heap.size W w'))
  obtain ⟨xs, hxs⟩ : ∃ xs, Hid (Lib.splitB ⟨#[44]⟩ 0 (Lib.countB s ⟨#[44]⟩) s = xs) := ⟨_, Lib.hid rfl⟩
  obtain ⟨n, hn⟩ : ∃ n, Hid (Lib.countB s ⟨#[44]⟩ + 1 = n) := ⟨_, Lib.hid rfl⟩
  have HXL : Hid (xs.length = n) := Lib.hid (by rw [← hxs.out, ← hn.out]; exact Lib.splitB_all _ (by decide) 0 _ _ rfl)
  have HXP : Hid (Kp.parts (bs s) = xs.map bs) := Lib.hid (by rw [← hxs.out]; exact (Kp.splitB_parts s).symm)
  have HXB : Hid (n ≤ 8193) := Lib.hid (by rw [← hn.out]; have := Lib.countB_le ⟨#[44]⟩ (by decide) s.size s (Nat.le_refl _); omega)
  have HXZ : Hid (∀ x ∈ xs, x.size ≤ 8192) := Lib.hid (fun x hx => by
    have h1 : bs x ∈ Kp.parts (bs s) := by rw [HXP.out]; exact List.mem_map_of_mem hx
    have h2 := Kp.parts_len h1
    rw [bs_length, bs_length] at h2; omega)
  have HSP := Lib.hid (fun (W : World) (hm : ∃ m, W.cell? ⟨2, 0, none⟩ = some (.int .i64 m)) => (by obtain ⟨m, hm⟩ := hm; have h := Tryz.strings_Split s ⟨#[44]⟩ m W (by omega) hm (by decide); rw [hxs.out, hn.out] at h; exact h : Calls Tryz.prog 24 #[.string s, .string ⟨#[44]⟩] W fun e w' => e = .returned (.slice (some ⟨W.heap.size, 0, none⟩) n n) ∧ w' = W.alloc (.cells (xs.map Value.string).toArray 9)))
  have HP0 : Hid (Kp.parseS (bs s) = P) := hP
  have hz := Blk.new_ w #[.int .i64 0, .int .i64 0, .int .i64 0, .int .i64 0, .int .i64 0, .int .i64 0, .int .i64 0, .int .i64 0, .int .i64 0, .int .i64 0, .int .i64 0, .int .i64 0, .int .i64 0] 23
  have bel := al1 w (.cells #[.int .i64 0, .int .i64 0, .int .i64 0, .int .i64 0, .int .i64 0, .int .i64 0, .int .i64 0, .int .i64 0, .int .i64 0, .int .i64 0, .int .i64 0, .int .i64 0, .int .i64 0] 23)
  have HT := Lib.hid hT
  clear hs hlen hP hT0 hxs hn
  go_enter Tryz.func8, Tryz.ntmps8
  go_wp2_with fail
  generalize w.alloc (.cells #[.int .i64 0, .int .i64 0, .int .i64 0, .int .i64 0, .int .i64 0, .int .i64 0, .int .i64 0, .int .i64 0, .int .i64 0, .int .i64 0, .int .i64 0, .int .i64 0, .int .i64 0] 23) = w1 at hz bel ⊢
  refine (HTR.out _).mono ?_
  rintro r w2 ⟨rfl, hb⟩
  replace hz := hz.below hb hz.lt
  replace bel := bel.trans (hb.mono bel.size)
  clear hb
  by_cases hnil : T0 = []
  · subst hnil
    have h5 : Hid (Kp.parseS (bs s) = (0, Kp.zeros)) := Lib.hid (by rw [HP0.out, HPS.out, if_pos rfl])
    have q1 : (mkB []).toList.isEmpty = true := by rw [bs_toList, bs_mk]; rfl
    have q2 : ((mkB []).toList == []) = true := by rw [bs_toList, bs_mk]; rfl
    have q3 : ((mkB []).toList != []) = false := by rw [bs_toList, bs_mk]; rfl
    go_upto_region 4 with (fail)
    have z0 : w2.cell? ⟨w.heap.size, 0, none⟩ = some (.int .i64 0) := hz.c 0 rfl
    have f0 := hz.fr 0
    have z1 : w2.cell? ⟨w.heap.size, 1, none⟩ = some (.int .i64 0) := hz.c 1 rfl
    have f1 := hz.fr 1
    have z2 : w2.cell? ⟨w.heap.size, 2, none⟩ = some (.int .i64 0) := hz.c 2 rfl
    have f2 := hz.fr 2
    have z3 : w2.cell? ⟨w.heap.size, 3, none⟩ = some (.int .i64 0) := hz.c 3 rfl
    have f3 := hz.fr 3
    have z4 : w2.cell? ⟨w.heap.size, 4, none⟩ = some (.int .i64 0) := hz.c 4 rfl
    have f4 := hz.fr 4
    have z5 : w2.cell? ⟨w.heap.size, 5, none⟩ = some (.int .i64 0) := hz.c 5 rfl
    have f5 := hz.fr 5
    have z6 : w2.cell? ⟨w.heap.size, 6, none⟩ = some (.int .i64 0) := hz.c 6 rfl
    have f6 := hz.fr 6
    have z7 : w2.cell? ⟨w.heap.size, 7, none⟩ = some (.int .i64 0) := hz.c 7 rfl
    have f7 := hz.fr 7
    have z8 : w2.cell? ⟨w.heap.size, 8, none⟩ = some (.int .i64 0) := hz.c 8 rfl
    have f8 := hz.fr 8
    have z9 : w2.cell? ⟨w.heap.size, 9, none⟩ = some (.int .i64 0) := hz.c 9 rfl
    have f9 := hz.fr 9
    have z10 : w2.cell? ⟨w.heap.size, 10, none⟩ = some (.int .i64 0) := hz.c 10 rfl
    have f10 := hz.fr 10
    have z11 : w2.cell? ⟨w.heap.size, 11, none⟩ = some (.int .i64 0) := hz.c 11 rfl
    have f11 := hz.fr 11
    have z12 : w2.cell? ⟨w.heap.size, 12, none⟩ = some (.int .i64 0) := hz.c 12 rfl
    have f12 := hz.fr 12
    have KK := Lib.hid (put13 hz ⟨0, 0, 0, 0, 0, 0, 0, 0, 0, 0, 0, 0, 0⟩)
    have BB := Lib.hid (below13 bel (show w.heap.size ≤ w.heap.size from Nat.le_refl _) ⟨0, 0, 0, 0, 0, 0, 0, 0, 0, 0, 0, 0, 0⟩)
    clear hz bel
    go_wp2_with fail
    replace KK := KK.out
    replace BB := BB.out
    (try dsimp only at KK BB)
    generalize (((((((((((((w2.setCell ⟨w.heap.size, 0, none⟩ (.int .i64 0)).setCell ⟨w.heap.size, 1, none⟩ (.int .i64 0)).setCell ⟨w.heap.size, 2, none⟩ (.int .i64 0)).setCell ⟨w.heap.size, 3, none⟩ (.int .i64 0)).setCell ⟨w.heap.size, 4, none⟩ (.int .i64 0)).setCell ⟨w.heap.size, 5, none⟩ (.int .i64 0)).setCell ⟨w.heap.size, 6, none⟩ (.int .i64 0)).setCell ⟨w.heap.size, 7, none⟩ (.int .i64 0)).setCell ⟨w.heap.size, 8, none⟩ (.int .i64 0)).setCell ⟨w.heap.size, 9, none⟩ (.int .i64 0)).setCell ⟨w.heap.size, 10, none⟩ (.int .i64 0)).setCell ⟨w.heap.size, 11, none⟩ (.int .i64 0)).setCell ⟨w.heap.size, 12, none⟩ (.int .i64 0)) = w9 at KK BB ⊢
    obtain ⟨r0, r1, r2, r3, r4, r5, r6, r7, r8, r9, r10, r11, r12⟩ := c13 KK
    refine bodyPost_ret (v := .tuple #[.agg #[.int .i64 0, .int .i64 0, .int .i64 0, .int .i64 0, .int .i64 0, .int .i64 0, .int .i64 0, .int .i64 0, .int .i64 0, .int .i64 0, .int .i64 0, .int .i64 0, .int .i64 0], .int .i64 0]) (by simp [results, Tryz.results8, go_sem, r0, r1, r2, r3, r4, r5, r6, r7, r8, r9, r10, r11, r12]) rfl ?_
    exact PaP.zero h5.out rfl BB
  have HPR : Hid (P = Kp.runS Kp.zeros Kp.falses (Kp.parts (bs s))) := Lib.hid (by rw [HPS.out, if_neg hnil])
  have q1 : (mkB T0).toList.isEmpty = false := by rw [bs_toList, bs_mk]; cases T0 with | nil => exact absurd rfl hnil | cons _ _ => rfl
  have q2 : ((mkB T0).toList == []) = false := by rw [bs_toList, bs_mk, beq_eq_false_iff_ne]; exact hnil
  have q3 : ((mkB T0).toList != []) = true := by rw [bs_toList, bs_mk, bne_iff_ne]; exact hnil
  clear hnil
  go_upto_region 6 with (fail)
  have hB : Blk (w2.alloc (.cells (Kp.rdA Kp.zeros Kp.falses) 57)) w2.heap.size (Kp.rdA Kp.zeros Kp.falses) := Blk.new_ w2 _ _
  have hb := al1 w2 (.cells (Kp.rdA Kp.zeros Kp.falses) 57)
  have hgb : w.heap.size < w2.heap.size := hz.lt
  replace hz := hz.below hb hz.lt
  replace bel := bel.trans (hb.mono bel.size)
  clear hb q1 q2 q3
  have hname : (w2.alloc (.cells (Kp.rdA Kp.zeros Kp.falses) 57)) = w2.alloc (.cells #[.int .i64 0, .int .i64 0, .int .i64 0, .int .i64 0, .int .i64 0, .int .i64 0, .int .i64 0, .int .i64 0, .int .i64 0, .int .i64 0, .int .i64 0, .int .i64 0, .int .i64 0, .bool false, .bool false, .bool false, .bool false, .bool false, .bool false, .bool false, .bool false, .bool false, .bool false, .bool false, .bool false, .bool false] 57) := rfl
  rw [hname] at hz bel hB
  clear hname
  generalize w2.alloc (.cells #[.int .i64 0, .int .i64 0, .int .i64 0, .int .i64 0, .int .i64 0, .int .i64 0, .int .i64 0, .int .i64 0, .int .i64 0, .int .i64 0, .int .i64 0, .int .i64 0, .int .i64 0, .bool false, .bool false, .bool false, .bool false, .bool false, .bool false, .bool false, .bool false, .bool false, .bool false, .bool false, .bool false, .bool false] 57) = w3 at hz bel hB ⊢
  generalize w2.heap.size = b at hB hgb ⊢
  go_wp2_with fail
  refine (HSP.out _ (HT.out.at bel).mx).mono ?_
  rintro r w4 ⟨rfl, rfl⟩
  have hR := Blk.new_ w3 (xs.map Value.string).toArray 9
  have hb := al1 w3 (.cells (xs.map Value.string).toArray 9)
  have hgr : b < w3.heap.size := hB.lt
  replace hz := hz.below hb hz.lt
  replace hB := hB.below hb hB.lt
  replace bel := bel.trans (hb.mono bel.size)
  clear hb
  generalize w3.alloc (.cells (xs.map Value.string).toArray 9) = w5 at hz bel hB hR ⊢
  generalize w3.heap.size = g at hR hgr ⊢
  go_wp2_with fail
  go_loopw [21] (fun iv wr => ∃ (i : Nat) (l : List Int) (m : List Bool), i ≤ n ∧ iv = .int .i64 (i : Int) ∧ Hid (P = Kp.runS l m ((xs.map bs).drop i)) ∧ Hid (l.length = 13 ∧ m.length = 13) ∧ Blk wr b (Kp.rdA l m) ∧ Blk wr w.heap.size #[.int .i64 0, .int .i64 0, .int .i64 0, .int .i64 0, .int .i64 0, .int .i64 0, .int .i64 0, .int .i64 0, .int .i64 0, .int .i64 0, .int .i64 0, .int .i64 0, .int .i64 0] ∧ Blk wr g (xs.map Value.string).toArray ∧ Below w.heap.size w wr) (fun iv _ => n - (intOf iv).toNat)
  case atStart => exact ⟨0, Kp.zeros, Kp.falses, Nat.zero_le _, rfl, Lib.hid (by rw [HPR.out, HXP.out]; rfl), Lib.hid ⟨rfl, rfl⟩, hB, hz, hR, bel⟩
  case round =>
    clear hz hB hR bel HPR
    obtain ⟨i, l, m, hi, rfl, HRN, HLM, hB, hz, hR, bel⟩ := hrel
    by_cases hlt : i < n
    · have hltI : (i : Int) < (n : Int) := by omega
      have hlx : i < xs.length := by rw [HXL.out]; exact hlt
      obtain ⟨x, hx⟩ : ∃ x, xs[i] = x := ⟨_, rfl⟩
      have hcx : wr.cell? ⟨g, i, none⟩ = some (.string x) := hR.c i (by rw [List.getElem?_toArray, List.getElem?_map, List.getElem?_eq_getElem hlx, hx]; rfl)
      have hdr : (xs.map bs).drop i = bs x :: (xs.map bs).drop (i + 1) := by
        rw [List.drop_eq_getElem_cons (by rw [List.length_map]; exact hlx), List.getElem_map, hx]
      have hxz : x.size ≤ 8192 := HXZ.out x (by rw [← hx]; exact List.getElem_mem hlx)
      obtain ⟨p, hp⟩ : ∃ p, Hid (Lib.trimB (bs x) 32 = p) := ⟨_, Lib.hid rfl⟩
      have hpl : p.length ≤ 8192 := by rw [← hp.out]; have := Kp.trimB_len (bs x) 32; rw [bs_length] at this; omega
      obtain ⟨K, hK⟩ : ∃ K, Hid ((Kp.stepS l m p).1 = K) := ⟨_, Lib.hid rfl⟩
      obtain ⟨l', hl'⟩ : ∃ y, Hid ((Kp.stepS l m p).2.1 = y) := ⟨_, Lib.hid rfl⟩
      obtain ⟨m', hm'⟩ : ∃ y, Hid ((Kp.stepS l m p).2.2 = y) := ⟨_, Lib.hid rfl⟩
      have HR2 : Hid (P = if K = 0 then Kp.runS l' m' ((xs.map bs).drop (i + 1)) else (K, Kp.zeros)) := Lib.hid (by rw [HRN.out, hdr, ← hK.out, ← hl'.out, ← hm'.out, ← hp.out]; rfl)
      have HLM2 : Hid (l'.length = 13 ∧ m'.length = 13) := Lib.hid (by rw [← hl'.out, ← hm'.out]; exact Kp.stepS_len HLM.out.1 HLM.out.2)
      have HTX := Lib.hid (fun (W : World) => (by have h := trimK x (by omega) W; rw [hp.out] at h; exact h : Calls Tryz.prog 23 #[.string x, .string ⟨#[32]⟩] W fun e w' => e = .returned (.string (mkB p)) ∧ Below W.heap.size W w'))
      have HRD := Lib.hid (fun (W : World) (hb : Below w.heap.size w W) (hB : Blk W b (Kp.rdA l m)) => (by have h := read_any b l m (mkB p) W (HT.out.at hb) hB HLM.out.1 HLM.out.2 (by rw [mk_size]; omega) ⟨by have := HT.out.ln; omega, by have := HT.out.le; omega⟩; unfold RdP at h; rw [bs_mk, hK.out, hl'.out, hm'.out] at h; exact h : Calls Tryz.prog 25 #[.pointer (some ⟨b, 0, none⟩), .string (mkB p)] W fun r w' => r = .returned (.int .i64 K) ∧ W.grownBy w' (some b) ∧ (K = 0 → Blk w' b (Kp.rdA l' m'))))
      have hwk : IntKind.i64.wrap ((i : Int) + 1) = ((i + 1 : Nat) : Int) := (IntWalk.i64_in _ (by have := HXB.out; omega)).trans (by omega)
      have HIN := Lib.hid (show i + 1 ≤ n by omega)
      clear hdr hxz hpl hx hlx hK hl' hm' hp
      go_wp2_with fail
      refine (HTX.out _).mono ?_
      rintro r w6 ⟨rfl, hb⟩
      replace hz := hz.below hb hz.lt
      replace hB := hB.below hb hB.lt
      replace hR := hR.below hb hR.lt
      replace bel := bel.trans (hb.mono bel.size)
      clear hb hcx
      go_wp2_with fail
      refine (HRD.out _ bel hB).mono ?_
      rintro r w7 ⟨rfl, hg, hB2⟩
      replace hz := hz.grown hg (by simp; omega)
      replace hR := hR.grown hg (by simp; omega)
      replace bel := bel.grown hg bel.size (fun k e => by cases e; omega)
      clear hg hB
      by_cases hk0 : K = 0
      · subst hk0
        have hB3 := hB2 rfl
        have HR3 : Hid (P = Kp.runS l' m' ((xs.map bs).drop (i + 1))) := Lib.hid (by rw [HR2.out, if_pos rfl])
        clear hB2
        go_wp2_with fail
        go_roundw
        case rel => exact ⟨i + 1, l', m', HIN.out, by first | go_num | rfl, HR3, HLM2, hB3, hz, hR, bel⟩
        case measure => (have := HIN.out; first | (simp [intOf]; omega) | (simp [intOf, hwk]; omega))
      · have hne : (K != 0) = true := by simpa using hk0
        have hne2 : (K == 0) = false := by simpa using hk0
        have h5 : Hid (Kp.parseS (bs s) = (K, Kp.zeros)) := Lib.hid (by rw [HP0.out, HR2.out, if_neg hk0])
        clear hB2 hk0 hR
        go_upto_region 11 with (fail)
        have z0 : w7.cell? ⟨w.heap.size, 0, none⟩ = some (.int .i64 0) := hz.c 0 rfl
        have f0 := hz.fr 0
        have z1 : w7.cell? ⟨w.heap.size, 1, none⟩ = some (.int .i64 0) := hz.c 1 rfl
        have f1 := hz.fr 1
        have z2 : w7.cell? ⟨w.heap.size, 2, none⟩ = some (.int .i64 0) := hz.c 2 rfl
        have f2 := hz.fr 2
        have z3 : w7.cell? ⟨w.heap.size, 3, none⟩ = some (.int .i64 0) := hz.c 3 rfl
        have f3 := hz.fr 3
        have z4 : w7.cell? ⟨w.heap.size, 4, none⟩ = some (.int .i64 0) := hz.c 4 rfl
        have f4 := hz.fr 4
        have z5 : w7.cell? ⟨w.heap.size, 5, none⟩ = some (.int .i64 0) := hz.c 5 rfl
        have f5 := hz.fr 5
        have z6 : w7.cell? ⟨w.heap.size, 6, none⟩ = some (.int .i64 0) := hz.c 6 rfl
        have f6 := hz.fr 6
        have z7 : w7.cell? ⟨w.heap.size, 7, none⟩ = some (.int .i64 0) := hz.c 7 rfl
        have f7 := hz.fr 7
        have z8 : w7.cell? ⟨w.heap.size, 8, none⟩ = some (.int .i64 0) := hz.c 8 rfl
        have f8 := hz.fr 8
        have z9 : w7.cell? ⟨w.heap.size, 9, none⟩ = some (.int .i64 0) := hz.c 9 rfl
        have f9 := hz.fr 9
        have z10 : w7.cell? ⟨w.heap.size, 10, none⟩ = some (.int .i64 0) := hz.c 10 rfl
        have f10 := hz.fr 10
        have z11 : w7.cell? ⟨w.heap.size, 11, none⟩ = some (.int .i64 0) := hz.c 11 rfl
        have f11 := hz.fr 11
        have z12 : w7.cell? ⟨w.heap.size, 12, none⟩ = some (.int .i64 0) := hz.c 12 rfl
        have f12 := hz.fr 12
        have KK := Lib.hid (put13 hz ⟨0, 0, 0, 0, 0, 0, 0, 0, 0, 0, 0, 0, 0⟩)
        have BB := Lib.hid (below13 bel (show w.heap.size ≤ w.heap.size from Nat.le_refl _) ⟨0, 0, 0, 0, 0, 0, 0, 0, 0, 0, 0, 0, 0⟩)
        clear hz bel
        go_wp2_with fail
        replace KK := KK.out
        replace BB := BB.out
        (try dsimp only at KK BB)
        generalize (((((((((((((w7.setCell ⟨w.heap.size, 0, none⟩ (.int .i64 0)).setCell ⟨w.heap.size, 1, none⟩ (.int .i64 0)).setCell ⟨w.heap.size, 2, none⟩ (.int .i64 0)).setCell ⟨w.heap.size, 3, none⟩ (.int .i64 0)).setCell ⟨w.heap.size, 4, none⟩ (.int .i64 0)).setCell ⟨w.heap.size, 5, none⟩ (.int .i64 0)).setCell ⟨w.heap.size, 6, none⟩ (.int .i64 0)).setCell ⟨w.heap.size, 7, none⟩ (.int .i64 0)).setCell ⟨w.heap.size, 8, none⟩ (.int .i64 0)).setCell ⟨w.heap.size, 9, none⟩ (.int .i64 0)).setCell ⟨w.heap.size, 10, none⟩ (.int .i64 0)).setCell ⟨w.heap.size, 11, none⟩ (.int .i64 0)).setCell ⟨w.heap.size, 12, none⟩ (.int .i64 0)) = w9 at KK BB ⊢
        obtain ⟨r0, r1, r2, r3, r4, r5, r6, r7, r8, r9, r10, r11, r12⟩ := c13 KK
        refine bodyPost_ret (v := .tuple #[.agg #[.int .i64 0, .int .i64 0, .int .i64 0, .int .i64 0, .int .i64 0, .int .i64 0, .int .i64 0, .int .i64 0, .int .i64 0, .int .i64 0, .int .i64 0, .int .i64 0, .int .i64 0], .int .i64 K]) (by simp [results, Tryz.results8, go_sem, r0, r1, r2, r3, r4, r5, r6, r7, r8, r9, r10, r11, r12]) rfl ?_
        exact PaP.zero h5.out rfl BB
    · obtain rfl : i = n := by omega
      obtain ⟨c, hc⟩ := Kp.list13 l HLM.out.1
      subst hc
      have h5 : Hid (Kp.parseS (bs s) = (0, c.list)) := Lib.hid (by rw [HP0.out, HRN.out, List.drop_of_length_le (by rw [List.length_map, HXL.out]; exact Nat.le_refl _)]; rfl)
      go_upto_region 13 with (fail)
      have e0 : wr.cell? ⟨b, 0, none⟩ = some (.int .i64 c.assign) := hB.c 0 rfl
      have e1 : wr.cell? ⟨b, 1, none⟩ = some (.int .i64 c.branch) := hB.c 1 rfl
      have e2 : wr.cell? ⟨b, 2, none⟩ = some (.int .i64 c.loop) := hB.c 2 rfl
      have e3 : wr.cell? ⟨b, 3, none⟩ = some (.int .i64 c.call) := hB.c 3 rfl
      have e4 : wr.cell? ⟨b, 4, none⟩ = some (.int .i64 c.output) := hB.c 4 rfl
      have e5 : wr.cell? ⟨b, 5, none⟩ = some (.int .i64 c.release) := hB.c 5 rfl
      have e6 : wr.cell? ⟨b, 6, none⟩ = some (.int .i64 c.load) := hB.c 6 rfl
      have e7 : wr.cell? ⟨b, 7, none⟩ = some (.int .i64 c.index) := hB.c 7 rfl
      have e8 : wr.cell? ⟨b, 8, none⟩ = some (.int .i64 c.arith) := hB.c 8 rfl
      have e9 : wr.cell? ⟨b, 9, none⟩ = some (.int .i64 c.multiply) := hB.c 9 rfl
      have e10 : wr.cell? ⟨b, 10, none⟩ = some (.int .i64 c.divide) := hB.c 10 rfl
      have e11 : wr.cell? ⟨b, 11, none⟩ = some (.int .i64 c.compare) := hB.c 11 rfl
      have e12 : wr.cell? ⟨b, 12, none⟩ = some (.int .i64 c.logic) := hB.c 12 rfl
      clear hB hR
      have z0 : wr.cell? ⟨w.heap.size, 0, none⟩ = some (.int .i64 0) := hz.c 0 rfl
      have f0 := hz.fr 0
      have z1 : wr.cell? ⟨w.heap.size, 1, none⟩ = some (.int .i64 0) := hz.c 1 rfl
      have f1 := hz.fr 1
      have z2 : wr.cell? ⟨w.heap.size, 2, none⟩ = some (.int .i64 0) := hz.c 2 rfl
      have f2 := hz.fr 2
      have z3 : wr.cell? ⟨w.heap.size, 3, none⟩ = some (.int .i64 0) := hz.c 3 rfl
      have f3 := hz.fr 3
      have z4 : wr.cell? ⟨w.heap.size, 4, none⟩ = some (.int .i64 0) := hz.c 4 rfl
      have f4 := hz.fr 4
      have z5 : wr.cell? ⟨w.heap.size, 5, none⟩ = some (.int .i64 0) := hz.c 5 rfl
      have f5 := hz.fr 5
      have z6 : wr.cell? ⟨w.heap.size, 6, none⟩ = some (.int .i64 0) := hz.c 6 rfl
      have f6 := hz.fr 6
      have z7 : wr.cell? ⟨w.heap.size, 7, none⟩ = some (.int .i64 0) := hz.c 7 rfl
      have f7 := hz.fr 7
      have z8 : wr.cell? ⟨w.heap.size, 8, none⟩ = some (.int .i64 0) := hz.c 8 rfl
      have f8 := hz.fr 8
      have z9 : wr.cell? ⟨w.heap.size, 9, none⟩ = some (.int .i64 0) := hz.c 9 rfl
      have f9 := hz.fr 9
      have z10 : wr.cell? ⟨w.heap.size, 10, none⟩ = some (.int .i64 0) := hz.c 10 rfl
      have f10 := hz.fr 10
      have z11 : wr.cell? ⟨w.heap.size, 11, none⟩ = some (.int .i64 0) := hz.c 11 rfl
      have f11 := hz.fr 11
      have z12 : wr.cell? ⟨w.heap.size, 12, none⟩ = some (.int .i64 0) := hz.c 12 rfl
      have f12 := hz.fr 12
      have KK := Lib.hid (put13 hz c)
      have BB := Lib.hid (below13 bel (show w.heap.size ≤ w.heap.size from Nat.le_refl _) c)
      clear hz bel
      go_wp2_with fail
      replace KK := KK.out
      replace BB := BB.out
      generalize (((((((((((((wr.setCell ⟨w.heap.size, 0, none⟩ (.int .i64 c.assign)).setCell ⟨w.heap.size, 1, none⟩ (.int .i64 c.branch)).setCell ⟨w.heap.size, 2, none⟩ (.int .i64 c.loop)).setCell ⟨w.heap.size, 3, none⟩ (.int .i64 c.call)).setCell ⟨w.heap.size, 4, none⟩ (.int .i64 c.output)).setCell ⟨w.heap.size, 5, none⟩ (.int .i64 c.release)).setCell ⟨w.heap.size, 6, none⟩ (.int .i64 c.load)).setCell ⟨w.heap.size, 7, none⟩ (.int .i64 c.index)).setCell ⟨w.heap.size, 8, none⟩ (.int .i64 c.arith)).setCell ⟨w.heap.size, 9, none⟩ (.int .i64 c.multiply)).setCell ⟨w.heap.size, 10, none⟩ (.int .i64 c.divide)).setCell ⟨w.heap.size, 11, none⟩ (.int .i64 c.compare)).setCell ⟨w.heap.size, 12, none⟩ (.int .i64 c.logic)) = w9 at KK BB ⊢
      obtain ⟨r0, r1, r2, r3, r4, r5, r6, r7, r8, r9, r10, r11, r12⟩ := c13 KK
      refine bodyPost_ret (v := .tuple #[.agg #[.int .i64 c.assign, .int .i64 c.branch, .int .i64 c.loop, .int .i64 c.call, .int .i64 c.output, .int .i64 c.release, .int .i64 c.load, .int .i64 c.index, .int .i64 c.arith, .int .i64 c.multiply, .int .i64 c.divide, .int .i64 c.compare, .int .i64 c.logic], .int .i64 0]) (by simp [results, Tryz.results8, go_sem, r0, r1, r2, r3, r4, r5, r6, r7, r8, r9, r10, r11, r12]) rfl ?_
      exact PaP.ok h5.out rfl BB
end Go.Proofs.YtmemkcaikajnnaaGreatDoor
