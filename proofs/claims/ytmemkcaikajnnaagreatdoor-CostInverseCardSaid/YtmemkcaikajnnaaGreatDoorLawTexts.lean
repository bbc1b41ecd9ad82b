/- Walk: the law CostTexts. -/
import Derived.Test.YtmemkcaikajnnaaGreatDoorU6
import Derived.Test.YtmemkcaikajnnaaGreatDoorKn
namespace Go.Proofs.YtmemkcaikajnnaaGreatDoor
open Go.RowKit Go.Sort
set_option linter.unusedVariables false

theorem C.of_list {c d : C} (h : c.list = d.list) : c = d := by
  cases c; cases d
  unfold C.list at h
  simp only [List.cons.injEq, and_true] at h
  obtain ⟨rfl, rfl, rfl, rfl, rfl, rfl, rfl, rfl, rfl, rfl, rfl, rfl, rfl⟩ := h
  rfl
/-- the two prints say the same -/
theorem prints (c : C) : ∃ (P : ByteArray) (K : Int), (∀ W : World, Tk W.heap.size W → Calls Tryz.prog 6 #[c.val] W fun r w' => r = .returned (.tuple #[.string P, .int .i64 K]) ∧ Below W.heap.size W w') ∧
    (∀ W : World, Calls Tryz.prog 7 #[c.val] W fun r w' => r = .returned (.tuple #[.string P, .int .i64 K]) ∧ Below W.heap.size W w') := by
  by_cases hk : c.ok = true
  · exact ⟨_, 0, fun W hT => print_ok c W hT hk, fun W => rprint_ok c W hk⟩
  · have h3 : c.code = 3 := by unfold C.code; rw [if_neg hk]
    exact ⟨⟨#[]⟩, 3, fun W hT => print_bad c W h3, fun W => rprint_bad c W h3⟩
/-- the two parses say the same -/
theorem parses (s : ByteArray) : ∃ (d : C) (K : Int), (∀ W : World, Tk W.heap.size W → Calls Tryz.prog 8 #[.string s] W fun r w' => r = .returned (.tuple #[.agg d.box, .int .i64 K]) ∧ Below W.heap.size W w') ∧
    (∀ W : World, Calls Tryz.prog 9 #[.string s] W fun r w' => r = .returned (.tuple #[.agg d.box, .int .i64 K]) ∧ Below W.heap.size W w') := by
  obtain ⟨d, hd⟩ : ∃ d : C, d.list = (Kp.parseS (bs s)).2 := by
    have h := Kp.parseS_len (bs s)
    revert h
    generalize (Kp.parseS (bs s)).2 = L
    intro h
    match L, h with
    | [a0, a1, a2, a3, a4, a5, a6, a7, a8, a9, a10, a11, a12], _ => exact ⟨⟨a0, a1, a2, a3, a4, a5, a6, a7, a8, a9, a10, a11, a12⟩, rfl⟩
  refine ⟨d, (Kp.parseS (bs s)).1, fun W hT => ?_, fun W => ?_⟩
  · refine (parse_any s W hT).mono ?_
    rintro r w' ⟨e, rfl, he, hb⟩
    obtain rfl : e = d := C.of_list (he.trans hd.symm)
    exact ⟨rfl, hb⟩
  · refine (rparse_any s W).mono ?_
    rintro r w' ⟨e, rfl, he, hb⟩
    obtain rfl : e = d := C.of_list (he.trans hd.symm)
    exact ⟨rfl, hb⟩
/-- the law's world -/
structure TeW (w wr : World) (c : C) : Prop where
  bc : Blk wr w.heap.size c.box
  bel : Below w.heap.size w wr
theorem TeW.below {w wr w' : World} {c : C} (h : TeW w wr c) (hb : Below wr.heap.size wr w') : TeW w w' c := ⟨h.bc.below hb h.bc.lt, bTrans h.bel hb⟩
set_option maxRecDepth 100000 in
set_option maxHeartbeats 8000000 in
theorem texts_walk (c : C) (s : ByteArray) (w : World) (hT : Tk w.heap.size w) : Calls Tryz.prog 3 #[c.val, .string s] w fun r w' => r = .returned (.bool true) ∧ Below w.heap.size w w' := by
  obtain ⟨P, K, hp1, hp2⟩ := prints c
  obtain ⟨d, J, hq1, hq2⟩ := parses s
  have HP1 := Lib.hid hp1
  have HP2 := Lib.hid hp2
  have HQ1 := Lib.hid hq1
  have HQ2 := Lib.hid hq2
  clear hp1 hp2 hq1 hq2
  have X : TeW w (w.alloc (.cells c.box 23)) c := ⟨Blk.new_ _ _ _, al1 w _⟩
  go_enter Tryz.func3, Tryz.ntmps3
  go_upto_region 1 with (fail)
  revert X
  generalize w.alloc (.cells #[.int .i64 c.assign, .int .i64 c.branch, .int .i64 c.loop, .int .i64 c.call, .int .i64 c.output, .int .i64 c.release, .int .i64 c.load, .int .i64 c.index, .int .i64 c.arith, .int .i64 c.multiply, .int .i64 c.divide, .int .i64 c.compare, .int .i64 c.logic] 23) = w1
  intro X
  go_wp2_with fail
  refine (known_ok _ (hT.at X.bel).tb).mono ?_
  rintro r w2 ⟨rfl, b2⟩
  replace X := X.below b2
  clear b2
  by_cases hlt : 500 < s.size
  · have hltI : (500 : Int) < (s.size : Int) := by omega
    have b3 := X.bel
    go_wp2_with fail
    go_ret
    exact ⟨rfl, b3⟩
  have hltI : ¬ (500 : Int) < (s.size : Int) := by omega
  obtain ⟨hc0, hc1, hc2, hc3, hc4, hc5, hc6, hc7, hc8, hc9, hc10, hc11, hc12⟩ := c13 X.bc
  go_wp2_with fail
  refine (HP1.out _ (hT.at X.bel)).mono ?_
  rintro r w3 ⟨rfl, b2⟩
  replace X := X.below b2
  clear b2 hc0 hc1 hc2 hc3 hc4 hc5 hc6 hc7 hc8 hc9 hc10 hc11 hc12
  obtain ⟨hc0, hc1, hc2, hc3, hc4, hc5, hc6, hc7, hc8, hc9, hc10, hc11, hc12⟩ := c13 X.bc
  go_wp2_with fail
  refine (HP2.out _).mono ?_
  rintro r w4 ⟨rfl, b2⟩
  replace X := X.below b2
  clear b2 hc0 hc1 hc2 hc3 hc4 hc5 hc6 hc7 hc8 hc9 hc10 hc11 hc12 hlt hltI
  go_wp2_with fail
  refine (HQ1.out _ (hT.at X.bel)).mono ?_
  rintro r w5 ⟨rfl, b2⟩
  replace X := X.below b2
  clear b2
  have X2 := X.below (al1 w5 (.cells d.box 23))
  have D := Blk.new_ w5 d.box 23
  clear X
  go_upto_region 8 with (fail)
  obtain ⟨b9, hb9⟩ : ∃ b, Hid (w5.heap.size = b) := ⟨_, Lib.hid rfl⟩
  generalize w5.alloc (.cells #[.int .i64 d.assign, .int .i64 d.branch, .int .i64 d.loop, .int .i64 d.call, .int .i64 d.output, .int .i64 d.release, .int .i64 d.load, .int .i64 d.index, .int .i64 d.arith, .int .i64 d.multiply, .int .i64 d.divide, .int .i64 d.compare, .int .i64 d.logic] 23) = w6 at X2 D ⊢
  rw [hb9.out] at D ⊢
  clear hb9
  go_wp2_with fail
  refine (HQ2.out _).mono ?_
  rintro r w7 ⟨rfl, b2⟩
  replace X2 := X2.below b2
  replace D := D.below b2 D.lt
  have X3 := X2.below (al1 w7 (.cells d.box 23))
  have D3 := D.alloc (.cells d.box 23)
  have E := Blk.new_ w7 d.box 23
  clear D X2 b2
  go_upto_region 9 with (fail)
  obtain ⟨b11, hb11⟩ : ∃ b, Hid (w7.heap.size = b) := ⟨_, Lib.hid rfl⟩
  generalize w7.alloc (.cells #[.int .i64 d.assign, .int .i64 d.branch, .int .i64 d.loop, .int .i64 d.call, .int .i64 d.output, .int .i64 d.release, .int .i64 d.load, .int .i64 d.index, .int .i64 d.arith, .int .i64 d.multiply, .int .i64 d.divide, .int .i64 d.compare, .int .i64 d.logic] 23) = w8 at X3 E D3 ⊢
  rw [hb11.out] at E ⊢
  clear hb11
  obtain ⟨hc0, hc1, hc2, hc3, hc4, hc5, hc6, hc7, hc8, hc9, hc10, hc11, hc12⟩ := c13 D3
  obtain ⟨hd0, hd1, hd2, hd3, hd4, hd5, hd6, hd7, hd8, hd9, hd10, hd11, hd12⟩ := c13 E
  have b3 := X3.bel
  go_wp2_with fail
  go_ret
  exact ⟨rfl, b3⟩
end Go.Proofs.YtmemkcaikajnnaaGreatDoor
