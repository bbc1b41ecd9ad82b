/- Walks: Residual of package cnf. -/
import Derived.Test.YtdbboeknknlolaaW6
namespace Go.Proofs.Ytdbboeknknlolaa
open Go.RowKit Go.Sort
set_option linter.unusedVariables false

/-- what is left of clauses under a literal -/
def resL (l : List (List Int)) (x : Int) : List (List Int) := canL ((l.filter fun z => !decide (x ∈ z)).map fun z => z.filter fun y => !decide (y = neg x))
/-- clauses of an argument, collected -/
structure LfI (w wr : World) (v : Value) (l : List Cl) : Prop where
  own : wr.ownsRow (w.heap.size + 1) 34 1 v l.length (cvals l)
  bel : Below w.heap.size w wr
theorem LfI.next {w wr w8 : World} {v v' : Value} {l : List Cl} {d : Cl} {o : Obj} (h : LfI w wr v l)
    (ho : w8.ownsRow (w.heap.size + 1) 34 1 v' (l.length + 1) (cvals l ++ [d.val])) (hg : (wr.alloc o).grownBy w8 v.ownBlock) : LfI w w8 v' (l ++ [d]) where
  own := by rw [cvals_snoc, List.length_append]; exact ho
  bel := (h.bel.alloc h.bel.size o).grown hg (by rw [World.size_alloc]; have := h.bel.size; omega) (fun k e => by have := (h.own.lt k e).1; omega)
theorem res1_any (lb : Nat) (x : Int) (hx : inI x) (y : Int) (W : World) (hb : One W lb (.int .i64 x)) : Calls Try.prog 44 (#[.int .i64 y] ++ #[.pointer (some ⟨lb, 0, none⟩)]) W fun e w' => e = .returned (.bool (!decide (y = neg x))) ∧ W = w' := by
  show Calls Try.prog 44 #[.int .i64 y, .pointer (some ⟨lb, 0, none⟩)] W _
  have c0 := hb.c
  have hw := neg_wrap hx
  obtain ⟨n, hn⟩ : ∃ n, Hid (neg x = n) := ⟨_, Lib.hid rfl⟩
  rw [hn.out] at hw ⊢
  have HE : Hid ((y != n) = !decide (y = n)) := Lib.hid (by by_cases h : y = n <;> simp [h])
  clear hb hn hx
  go_enter Try.func44, Try.ntmps44
  go_wp2_with fail
  go_ret
  exact ⟨ret_bool HE.out, rfl⟩
set_option maxRecDepth 100000 in
set_option maxHeartbeats 2000000 in
theorem residual_any (cs : List Cl) (x : Int) (A : Option Addr) (ca : Nat) (w : World) (hx : LL w w.heap.size A cs) (rx : inI x) (hlx : cs.length ≤ 1000000) (hcx : ∀ c ∈ cs, c.zs.length ≤ 1000000) :
    Calls Try.prog 22 #[.slice A cs.length ca, .int .i64 x] w (NLL (resL (ct cs) x) w) := by
  have X0 : LfI w (w.alloc (.cells #[.int .i64 x] 3)) (.slice none 0 0) [] := ⟨World.ownsRow_nil _ _ _ _, al1 _ _⟩
  have B0 : One (w.alloc (.cells #[.int .i64 x] 3)) w.heap.size (.int .i64 x) := One.new_ _ _ _
  have HX := Lib.hid (fun W (h : Below w.heap.size w W) => hx.below h)
  have HCX := Lib.hid hcx
  have HRX := Lib.hid rx
  obtain ⟨j0, hj0, hy0, hy1, hy2⟩ := info_parts infoInts
  obtain ⟨n, hn⟩ : ∃ n, Hid (cs.length = n) := ⟨_, Lib.hid rfl⟩
  have HL0 : Hid (([] : List Cl) = (cs.take 0).filter fun c => !decide (x ∈ c.zs)) := Lib.hid rfl
  rw [hn.out] at hlx ⊢
  clear hx hcx rx
  go_enter Try.func22, Try.ntmps22
  go_upto_region 3 with (fail)
  revert X0 B0
  generalize w.alloc (.cells #[.int .i64 x] 3) = w1
  intro X0 B0
  go_wp2_with fail
  go_loopw [5, 7, 10] (fun v5 v7 iv wr => ∃ i : Nat, i ≤ n ∧ iv = .int .i64 i ∧ ∃ l : List Cl, l.length ≤ i ∧ Hid (l = (cs.take i).filter fun c => !decide (x ∈ c.zs)) ∧ LfI w wr v5 l ∧ One wr w.heap.size (.int .i64 x)) (fun _ _ iv _ => n - (intOf iv).toNat)
  case atStart => exact ⟨0, Nat.zero_le _, rfl, [], Nat.le_refl _, HL0, X0, B0⟩
  case round =>
    clear X0 HL0 B0
    obtain ⟨i, hi, rfl, l, hll, HLl, Y, B⟩ := hrel
    obtain ⟨A5, c5, rfl⟩ := own_slice_ Y.own
    have cb := B.c
    by_cases hlt : i < n
    · obtain ⟨b, off, c, rfl, hb, c0, hci, zc⟩ := (HX.out _ Y.bel).at_ (show i < cs.length by rw [hn.out]; exact hlt)
      have HC := Lib.hid (contains_any c.zs x c.ad c.cap wr (zc.more Y.bel.size) (HCX.out c (List.mem_of_getElem? hci)))
      have HTK : Hid ((cs.take (i + 1)).filter (fun c => !decide (x ∈ c.zs)) = (cs.take i).filter (fun c => !decide (x ∈ c.zs)) ++ (if decide (x ∈ c.zs) then [] else [c])) := Lib.hid (by
        obtain ⟨hil, hie⟩ := List.getElem?_eq_some_iff.1 hci
        rw [List.take_succ_eq_append_getElem hil, List.filter_append, hie]
        cases hs : decide (x ∈ c.zs) <;> simp [hs])
      obtain ⟨s, hs⟩ : ∃ s, Hid (decide (x ∈ c.zs) = s) := ⟨_, Lib.hid rfl⟩
      rw [hs.out] at HC HTK
      have Yh := Lib.hid Y
      have Bh := Lib.hid B
      clear hci zc hs Y B
      go_wp2_with fail
      refine HC.out.mono ?_
      rintro r w2 ⟨rfl, q, rfl⟩
      have HY := Lib.hid (show LfI w (wr.drewN q) (.slice A5 l.length c5) l from ⟨own_drew Yh.out.own q, bDrew_ Yh.out.bel q⟩)
      have HB := Lib.hid (Bh.out.drewN q)
      have hb1 := Yh.out.bel.size
      have hb2 := Bh.out.lt
      clear HC Yh Bh c0 cb
      cases s with
      | true =>
        have HL2 : Hid (l = (cs.take (i + 1)).filter fun c => !decide (x ∈ c.zs)) := Lib.hid (by rw [HTK.out, ← HLl.out]; simp)
        clear HTK HLl
        go_wp2_with fail
        go_roundw
        case rel => exact ⟨i + 1, by omega, by go_num, l, by omega, HL2, HY.out, HB.out⟩
        case measure => simp [intOf]; omega
      | false =>
        have HL2 : Hid (l ++ [c] = (cs.take (i + 1)).filter fun c => !decide (x ∈ c.zs)) := Lib.hid (by rw [HTK.out, ← HLl.out]; simp)
        have ho := HY.out.own
        clear HTK HLl
        go_wp2_with (at_builtin; refine wpList_append_lies _ rfl _ _ 22 rfl (w.heap.size + 1) 34 j0 (.slice none 0 0) 1 24 Try.underlying22 hj0 hy0 hy1 hy2 rfl (by decide) (.slice A5 l.length c5) l.length (cvals l) rfl (ho.alloc _) ⟨wr.heap.size, 0, none⟩ 1 1 [.slice c.ad c.zs.length c.cap] rfl rfl (cell_one_new _ _ _) (by intro u hu; simp at hu; subst hu; rfl) (by decide) (by unfold maxLen; omega) (by omega) (by rw [World.size_alloc]; show w.heap.size + 1 ≤ wr.heap.size + 1; omega) _ rfl ?_; intro g cap w8 hown8 hgrow hat hlt8)
        have Y2 := HY.out.next (d := c) hown8 hgrow
        have B2 := (HB.out.alloc (.cells #[.slice c.ad c.zs.length c.cap] 34))
        have B3 : One w8 w.heap.size (.int .i64 x) := by
          obtain ⟨T, hT⟩ := B2.blk
          exact ⟨T, by rw [hgrow.block _ (by rw [World.size_alloc]; show w.heap.size < wr.heap.size + 1; omega) (fun e => by have := (ho.lt _ e.symm).1; omega)]; exact hT⟩
        have hll2 : (l ++ [c]).length ≤ i + 1 := by rw [List.length_append]; simp; omega
        clear hown8 hgrow hat ho HY HB B2
        go_wp2_with fail
        go_roundw
        case rel => exact ⟨i + 1, by omega, by go_num, l ++ [c], hll2, HL2, Y2, B3⟩
        case measure => simp [intOf]; omega
    · obtain rfl : i = n := by omega
      have hle : Hid (l = cs.filter fun c => !decide (x ∈ c.zs)) := Lib.hid (by rw [HLl.out, List.take_of_length_le (by rw [hn.out]; exact Nat.le_refl _)])
      have hmem : ∀ c ∈ l, c ∈ cs := fun c hc => by rw [hle.out] at hc; exact (List.mem_filter.1 hc).1
      have hrow := RowS.of_own Y.own (by decide)
      have hL : LL wr wr.heap.size A5 l := ⟨hrow.row, fun c hc => (((HX.out _ Y.bel).all c (hmem c hc))).more Y.bel.size, by omega⟩
      have H := canonR_any w.heap.size (fun y => !decide (y = neg x)) l A5 c5 wr hL (by omega) (fun c hc => HCX.out c (hmem c hc)) (fun y _ W hW => res1_any w.heap.size x HRX.out y W (B.below hW B.lt))
      have HE : Hid (canL ((ct l).map fun z => z.filter fun y => !decide (y = neg x)) = resL (ct cs) x) := Lib.hid (by
        unfold resL
        rw [hle.out]
        congr 1
        congr 1
        show (List.map Cl.zs _) = List.filter _ (List.map Cl.zs cs)
        rw [List.filter_map]; rfl)
      rw [HE.out] at H
      have HH := Lib.hid H
      have hbel := Y.bel
      unfold NLL at HH
      clear H HE hle hmem hrow hL HLl Y HX HCX HRX B
      go_wp2_with fail
      refine HH.out.mono ?_
      rintro r w2 ⟨A2, c2, ds, rfl, h1, h2, h3⟩
      have h4 := bTrans hbel h3
      clear HH cb h3
      go_wp2_with fail
      go_ret
      exact ⟨A2, c2, ds, rfl, h1, h2, h4⟩
end Go.Proofs.Ytdbboeknknlolaa
