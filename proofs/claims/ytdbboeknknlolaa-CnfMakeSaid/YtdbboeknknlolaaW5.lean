/- Walks: isTautology, canonical of package cnf. -/
import Derived.Test.YtdbboeknknlolaaW4
namespace Go.Proofs.Ytdbboeknknlolaa
open Go.RowKit Go.Sort
set_option linter.unusedVariables false

theorem neg_wrap {y : Int} (h : inI y) : IntKind.i64.wrap (-y) = neg y := by
  unfold inI at h
  unfold neg
  split
  · rename_i e; subst e; rfl
  · exact IntWalk.i64_in _ (by omega)
theorem bDrew_ {B : Nat} {a w : World} (h : Below B a w) (n : Nat) : Below B a (w.drewN n) := ⟨h.os, h.tape, h.output, h.size, h.block⟩
theorem taut_drop {zs : List Int} {m : Nat} {x y : Int} (hx : zs[m]? = some x) (hy : zs[m + 1]? = some y) : taut (zs.drop m) = (decide (x = neg y) || taut (zs.drop (m + 1))) := by
  rw [drop_cons_ hx, drop_cons_ hy]; rfl
theorem taut_end {zs : List Int} {m : Nat} (h : zs.length ≤ m + 1) : taut (zs.drop m) = false := by
  have : (zs.drop m).length ≤ 1 := by rw [List.length_drop]; omega
  cases hz : zs.drop m with
  | nil => rfl
  | cons a l =>
    cases l with
    | nil => rfl
    | cons b l => rw [hz] at this; simp at this
set_option maxRecDepth 100000 in
set_option maxHeartbeats 1000000 in
theorem taut_any (zs : List Int) (A : Option Addr) (c : Nat) (w : World) (hz : Zs w w.heap.size A zs) (hl : zs.length ≤ 1000000) :
    Calls Try.prog 51 #[.slice A zs.length c] w fun e w' => e = .returned (.bool (taut zs)) ∧ Dr w w' := by
  have X := Dr.refl w
  have HX := Lib.hid (fun W (h : Dr w W) => hz.at h.bel)
  obtain ⟨e, he⟩ : ∃ e, Hid (taut zs = e) := ⟨_, Lib.hid rfl⟩
  have H0 : Hid (taut (zs.drop (0 - 1)) = e) := he
  obtain ⟨n, hn⟩ : ∃ n, Hid (zs.length = n) := ⟨_, Lib.hid rfl⟩
  rw [he.out]
  rw [hn.out] at hl ⊢
  clear hz he
  go_enter Try.func51, Try.ntmps51
  go_wp2_with fail
  go_loopw [3, 6] (fun v3 iv wr => ∃ i : Nat, i ≤ n ∧ iv = .int .i64 i ∧ Hid (taut (zs.drop (i - 1)) = e) ∧ Dr w wr) (fun _ iv _ => n - (intOf iv).toNat)
  case atStart => exact ⟨0, Nat.zero_le _, rfl, H0, X⟩
  case round =>
    clear X H0
    obtain ⟨i, hi, rfl, hte, Y⟩ := hrel
    by_cases hlt : i < n
    · by_cases h0 : i = 0
      · subst h0
        clear HX
        have Yh := Lib.hid (fun q => Y.trans (Dr.dr _ q))
        go_wp2_with fail
        first | go_quiet (fail) | go_region
        go_wp2_with fail
        go_roundw
        case rel => exact ⟨1, by omega, rfl, hte, Yh.out _⟩
        case measure => simp [intOf]; omega
      · obtain ⟨m, hm⟩ : ∃ m, Hid (i = m + 1) := ⟨i - 1, Lib.hid (by omega)⟩
        have hmI : IntKind.i64.wrap ((i : Int) - 1) = (m : Int) := by
          have := hm.out
          rw [IntWalk.i64_in _ (by omega)]; omega
        have hmn : m < n := by have := hm.out; omega
        have q0 : decide ((0 : Int) < (i : Int)) = true := by rw [decide_eq_true_eq]; omega
        have hpos : 0 < i := by omega
        obtain ⟨b, off, y, rfl, hb, c1, hyi, ry⟩ := (HX.out _ Y).at_ (show i < zs.length by rw [hn.out]; exact hlt)
        obtain ⟨b', off', x, hA', hb', c0, hxi, rx⟩ := (HX.out _ Y).at_ (show m < zs.length by rw [hn.out]; exact hmn)
        obtain ⟨rfl, rfl⟩ : b = b' ∧ off = off' := by simpa using hA'
        have hw := neg_wrap ry
        have ht : (decide (x = neg y) || taut (zs.drop i)) = e := by
          rw [← hte.out, show i - 1 = m by have := hm.out; omega]
          rw [hm.out] at hyi ⊢
          exact (taut_drop hxi hyi).symm
        have HT := Lib.hid ht
        obtain ⟨ny, hny⟩ : ∃ z, Hid (neg y = z) := ⟨_, Lib.hid rfl⟩
        rw [hny.out] at hw HT
        have Yh := Lib.hid (fun q => Y.trans (Dr.dr _ q))
        by_cases hxy : x = ny
        · have he1 : e = true := by rw [← HT.out, decide_eq_true hxy]; rfl
          have q1 : (x == ny) = true := by simpa using hxy
          subst he1
          clear ht HT hte hyi hxi rx ry hA' hny hm hxy
          go_wp2_with fail
          go_quiet (fail)
          go_wp2_with fail
          go_ret
          exact ⟨rfl, Yh.out _⟩
        · have he1 : Hid (taut (zs.drop (i + 1 - 1)) = e) := Lib.hid (by rw [← HT.out, decide_eq_false hxy]; rfl)
          have q1 : (x == ny) = false := by simpa using hxy
          clear ht HT hte hyi hxi rx ry hA' hny hm hxy
          go_wp2_with fail
          go_quiet (fail)
          go_wp2_with fail
          go_roundw
          case rel => exact ⟨i + 1, by omega, by go_num, he1, Yh.out _⟩
          case measure => simp [intOf]; omega
    · obtain rfl : i = n := by omega
      have he1 : e = false := by rw [← hte.out]; exact taut_end (by rw [hn.out]; omega)
      subst he1
      clear hte HX
      go_wp2_with fail
      go_ret
      exact ⟨rfl, Y⟩
/-- a list of clauses under way -/
structure CnI (w wr : World) (v : Value) (l : List Cl) : Prop where
  own : wr.ownsRow w.heap.size 34 1 v l.length (cvals l)
  all : ∀ c ∈ l, CN wr w.heap.size v.ownBlock c
  bel : Below w.heap.size w wr
theorem CnI.lt {w wr : World} {v : Value} {l : List Cl} (h : CnI w wr v l) {k : Nat} (hk : v.ownBlock = some k) : w.heap.size ≤ k ∧ k < wr.heap.size := h.own.lt k hk
theorem CnI.below {w wr w' : World} {v : Value} {l : List Cl} (h : CnI w wr v l) (hb : Below wr.heap.size wr w') : CnI w w' v l :=
  ⟨h.own.kept (grown_of_below hb none) (by
      cases hv : v.ownBlock with
      | none => exact .inl rfl
      | some k => exact .inr (by simp)), fun c hc => (h.all c hc).grown (grown_of_below hb _), bTrans h.bel hb⟩
theorem CnI.next {w wr w5 w8 : World} {v v' : Value} {l : List Cl} {d : Cl} {o : Obj} (h : CnI w wr v l) (hb : Below wr.heap.size wr w5) (hn : RowS w5 (fun b => wr.heap.size ≤ b) d.ad (zvals d.zs)) (hr : ∀ x ∈ d.zs, inI x) (hdl : d.zs.length ≤ 1000000) {g cap : Nat}
    (hv' : v' = .slice (some ⟨g, 0, none⟩) (l.length + 1) cap) (ho : w8.ownsRow w.heap.size 34 1 v' (l.length + 1) (cvals l ++ [d.val])) (hg : (w5.alloc o).grownBy w8 v.ownBlock) (hat : v.ownBlock = some g ∨ g = (w5.alloc o).heap.size) : CnI w w8 v' (l ++ [d]) := by
  have h5 := h.below hb
  have hob : v'.ownBlock = some g := by rw [hv']; rfl
  have hsz : (w5.alloc o).heap.size = w5.heap.size + 1 := World.size_alloc _ _
  have hbs := hb.size
  refine ⟨by rw [cvals_snoc, List.length_append]; exact ho, fun c hc => ?_, ?_⟩
  · rw [hob]
    rcases List.mem_append.1 hc with hc | hc
    · have h6 := ((h5.all c hc).gro (Gro.al w5 o)).grown hg
      have h7 := h5.all c hc
      refine ⟨⟨fun h0 => ?_⟩, h6.rng, h6.len⟩
      obtain ⟨b, off, e1, e2, e3, e4⟩ := h6.row.cells h0
      obtain ⟨b', off', e1', e2', e3', _⟩ := h7.row.cells h0
      rw [e1] at e1'
      obtain ⟨rfl, rfl⟩ : b = b' ∧ off = off' := by simpa using e1'
      refine ⟨b, off, e1, ⟨e2.1, fun e => ?_⟩, e3, e4⟩
      injection e with e
      rcases hat with hat | hat
      · exact e2.2 (by rw [hat, e])
      · omega
    · obtain rfl : c = d := by simpa using hc
      refine ⟨⟨fun h0 => ?_⟩, hr, hdl⟩
      obtain ⟨b, off, e1, e2, e3, e4⟩ := hn.cells h0
      have hne : some b ≠ v.ownBlock := fun e => by
        have := (h.lt e.symm).2
        omega
      refine ⟨b, off, e1, ⟨by have := h.bel.size; omega, fun e => ?_⟩, by have := hg.size; omega, fun k u hu => ?_⟩
      · injection e with e
        rcases hat with hat | hat
        · exact hne (by rw [hat, e])
        · omega
      · have e5 : (w5.alloc o).cell? ⟨b, off + k, none⟩ = some u := by
          rw [World.cell?_of_block (Below.heap_alloc w5 o b e3)]; exact e4 k u hu
        rw [World.cell?_of_block (hg.block b (by omega) hne)]; exact e5
  · exact (bTrans h5.bel (al1 w5 o)).grown hg (by rw [hsz]; have := h5.bel.size; omega) (fun k e => (h.lt e).1)
/-- a call hands back a list of clauses -/
def NLL (L : List (List Int)) (w : World) (r : Ending) (w' : World) : Prop :=
  ∃ A c ds, r = .returned (.slice A ds.length c) ∧ ct ds = L ∧ LL w' w'.heap.size A ds ∧ Below w.heap.size w w'
theorem srt_len {α : Type} {c : α → α → Int} (l : List α) : (srt c l).length ≤ l.length := by
  have hi : ∀ (a : α) (l : List α), (ins c a l).length ≤ l.length + 1 := by
    intro a l
    induction l with
    | nil => simp [ins]
    | cons b l ih => unfold ins; split <;> (try split) <;> simp <;> omega
  induction l with
  | nil => simp [srt]
  | cons a l ih => have := hi a (srt c l); simp only [srt, List.foldr_cons, List.length_cons] at *; omega
set_option maxRecDepth 100000 in
set_option maxHeartbeats 4000000 in
theorem canonP_any (st : Int → Bool) (cs : List Cl) (A : Option Addr) (ca : Nat) (w : World) (hx : LL w w.heap.size A cs) (hlx : cs.length ≤ 1000000) (hcx : ∀ c ∈ cs, c.zs.length ≤ 1000000)
    (hst : ∀ x, inI x → ∀ W, Below w.heap.size w W → Calls Try.prog 40 (#[.int .i64 x] ++ #[]) W fun e w' => e = .returned (.bool (st x)) ∧ W = w') :
    Calls Try.prog 39 #[.slice A cs.length ca, .func (.func 40) #[] #[]] w (NLL (canL ((ct cs).map fun z => z.filter st)) w) := by
  have X : CnI w w (.slice none 0 0) [] := ⟨World.ownsRow_nil _ _ _ _, fun _ h => absurd h (by simp), Below.refl _ _⟩
  have HX := Lib.hid (fun W (h : Below w.heap.size w W) => hx.below h)
  have HS := Lib.hid hst
  have HCX := Lib.hid hcx
  obtain ⟨i0, hi0, hz0, hz1, hz2⟩ := info_parts infoInt
  obtain ⟨j0, hj0, hy0, hy1, hy2⟩ := info_parts infoInts
  obtain ⟨n, hn⟩ : ∃ n, Hid (cs.length = n) := ⟨_, Lib.hid rfl⟩
  have HL0 : Hid (ct ([] : List Cl) = ((((ct cs).map fun z => z.filter st).take 0).map srtL).filter fun k => !taut k) := Lib.hid rfl
  rw [hn.out] at hlx ⊢
  clear hx hst hcx
  go_enter Try.func39, Try.ntmps39
  go_wp2_with fail
  go_loopw [5, 7, 8, 10, 13] (fun v5 v7 v8 v10 iv wr => ∃ i : Nat, i ≤ n ∧ iv = .int .i64 i ∧ ∃ l : List Cl, l.length ≤ i ∧ Hid (ct l = ((((ct cs).map fun z => z.filter st).take i).map srtL).filter fun k => !taut k) ∧ CnI w wr v5 l) (fun _ _ _ _ iv _ => n - (intOf iv).toNat)
  case atStart => exact ⟨0, Nat.zero_le _, rfl, [], Nat.le_refl _, HL0, X⟩
  case round =>
    clear X HL0
    obtain ⟨i, hi, rfl, l, hll, HLl, Y⟩ := hrel
    obtain ⟨A5, c5, rfl⟩ := own_slice_ Y.own
    by_cases hlt : i < n
    · obtain ⟨b, off, c, rfl, hb, c0, hci, zc⟩ := (HX.out _ Y.bel).at_ (show i < cs.length by rw [hn.out]; exact hlt)
      have hcl : c.zs.length ≤ 1000000 := HCX.out c (List.mem_of_getElem? hci)
      have hW0 := Y.bel.size
      have HN := Lib.hid (fun W (hb : Below wr.heap.size wr W) => Y.below hb)
      have HZ := Lib.hid (fun W (hb : Below wr.heap.size wr W) => zc.below (hb.mono hW0))
      have HSt := Lib.hid (fun x hx W (hb : Below wr.heap.size wr W) => HS.out x hx W (bTrans Y.bel hb))
      have HYn := Lib.hid (fun (w5 w8 : World) (v' : Value) (d : Cl) (o : Obj) (g cap : Nat) h1 h2 h3 h4 h5 h6 h7 h8 => CnI.next (w5 := w5) (w8 := w8) (v' := v') (d := d) (o := o) (g := g) (cap := cap) Y h1 h2 h3 h4 h5 h6 h7 h8)
      have hob : ∀ k, Value.ownBlock (.slice A5 l.length c5) = some k → k < wr.heap.size := fun k hk => (Y.lt hk).2
      have HOB := Lib.hid hob
      obtain ⟨m, hm⟩ : ∃ m, Hid (c.zs.length = m) := ⟨_, Lib.hid rfl⟩
      have Z0 : wr.ownsRow wr.heap.size 3 1 (.slice none 0 0) 0 (zvals []) ∧ Below wr.heap.size wr wr := ⟨World.ownsRow_nil _ _ _ _, Below.refl _ _⟩
      have HF0 : Hid (([] : List Int) = (c.zs.take 0).filter st) := Lib.hid rfl
      have HTK : Hid ((((ct cs).map fun z => z.filter st).take (i + 1)) = (((ct cs).map fun z => z.filter st).take i) ++ [c.zs.filter st]) := Lib.hid (by
        have hlen : i < ((ct cs).map fun z => z.filter st).length := by rw [List.length_map, List.length_map, hn.out]; exact hlt
        rw [List.take_succ_eq_append_getElem hlen]
        congr 1
        rw [List.getElem_map, List.getElem_map]
        have := (List.getElem?_eq_some_iff.1 hci).2
        rw [this])
      rw [hm.out] at c0 hcl
      clear Y zc hci hob
      go_wp2_with fail
      clear c0
      go_loopw [8, 10, 19] (fun v8 v10 jv ws => ∃ j : Nat, j ≤ m ∧ jv = .int .i64 j ∧ ∃ zs : List Int, zs.length ≤ j ∧ Hid (zs = (c.zs.take j).filter st) ∧ Hid (ws.ownsRow wr.heap.size 3 1 v8 zs.length (zvals zs)) ∧ Hid (Below wr.heap.size wr ws)) (fun _ _ jv _ => m - (intOf jv).toNat)
      case atStart => exact ⟨0, Nat.zero_le _, rfl, [], Nat.le_refl _, HF0, Lib.hid Z0.1, Lib.hid Z0.2⟩
      case round =>
        clear Z0 HF0
        obtain ⟨j, hj, rfl, zs, hzl, HF, HO, HB⟩ := hrel
        obtain ⟨A8, c8, rfl⟩ := own_slice_ HO.out
        have hbs := HB.out.size
        by_cases hjm : j < m
        · obtain ⟨b2, off2, x, hax, hb2, c1, hxi, rx⟩ := (HZ.out _ HB.out).at_ (show j < c.zs.length by rw [hm.out]; exact hjm)
          have HC := HSt.out x rx _ HB.out
          rw [hax]
          have HTk : Hid ((c.zs.take (j + 1)).filter st = (c.zs.take j).filter st ++ (if st x then [x] else [])) := Lib.hid (by
            obtain ⟨hjl, hje⟩ := List.getElem?_eq_some_iff.1 hxi
            rw [List.take_succ_eq_append_getElem hjl, List.filter_append, hje]
            cases hs : st x <;> simp [hs])
          obtain ⟨s, hs⟩ : ∃ s, Hid (st x = s) := ⟨_, Lib.hid rfl⟩
          rw [hs.out] at HC HTk
          have HCh := Lib.hid HC
          clear HC hxi rx hs hax
          go_wp2_with fail
          refine HCh.out.mono ?_
          rintro r w2 ⟨rfl, rfl⟩
          clear HCh c1
          cases s with
          | false =>
            have HF2 : Hid (zs = (c.zs.take (j + 1)).filter st) := Lib.hid (by rw [HTk.out, ← HF.out]; simp)
            clear HTk HF
            go_wp2_with fail
            go_roundw
            case rel => exact ⟨j + 1, by omega, by go_num, zs, by omega, HF2, HO, HB⟩
            case measure => simp [intOf]; omega
          | true =>
            have HF2 : Hid (zs ++ [x] = (c.zs.take (j + 1)).filter st) := Lib.hid (by rw [HTk.out, ← HF.out]; simp)
            clear HTk HF
            go_wp2_with (at_builtin; refine wpList_append_lies _ rfl _ _ 34 rfl _ 3 i0 (.int .i64 0) 1 8 Try.underlying34 hi0 hz0 hz1 hz2 rfl (by decide) (.slice A8 zs.length c8) zs.length (zvals zs) rfl (HO.out.alloc _) ⟨wr.heap.size, 0, none⟩ 1 1 [.int .i64 x] rfl rfl (cell_one_new _ _ _) (by intro u hu; simp at hu; subst hu; rfl) (by decide) (by unfold maxLen; omega) (by omega) (by rw [World.size_alloc]; omega) _ rfl ?_; intro g cap w8 hown8 hgrow hat hlt8)
            have HO2 : Hid (w8.ownsRow _ 3 1 (.slice (some ⟨g, 0, none⟩) (zs.length + 1) cap) (zs ++ [x]).length (zvals (zs ++ [x]))) := Lib.hid (by rw [zvals_snoc, List.length_append]; exact hown8)
            have HB2 := Lib.hid ((HB.out.alloc hbs (.cells #[.int .i64 x] 3)).grown hgrow (by rw [World.size_alloc]; omega) (fun k e => (HO.out.lt k e).1))
            have hzl2 : (zs ++ [x]).length ≤ j + 1 := by rw [List.length_append]; simp; omega
            clear hown8 hgrow hat HO HB
            go_wp2_with fail
            go_roundw
            case rel => exact ⟨j + 1, by omega, by go_num, zs ++ [x], hzl2, HF2, HO2, HB2⟩
            case measure => simp [intOf]; omega
        · obtain rfl : j = m := by omega
          have hzs : Hid (zs = c.zs.filter st) := Lib.hid (by rw [HF.out, List.take_of_length_le (by rw [hm.out]; exact Nat.le_refl _)])
          have hrng : ∀ x ∈ zs, inI x := fun x hx => by
            rw [hzs.out] at hx
            exact (HZ.out _ HB.out).rng x (List.mem_filter.1 hx).1
          have hz6 : zs.length ≤ 1000000 := by omega
          have HSO := Lib.hid (sortZ_gen 50 (fun _ _ => rfl) (fun x y hx hy W => lit_any x y hx hy W) _ _ _ zs _ HO.out hrng hz6)
          have hRN := Lib.hid hrng
          have HLT := Lib.hid (fun k e => (HO.out.lt k e).1)
          unfold SzP at HSO
          clear HF HZ HSt HO hrng hm
          go_wp2_with fail
          refine HSO.out.mono ?_
          rintro r w2 ⟨rfl, zs', hp, hso, hown2, hg2⟩
          have HB2 := HB.out.grown hg2 hbs (fun k e => HLT.out k e)
          have HCZ := Lib.hid (compactZ_any _ _ _ zs' _ hown2 hz6)
          have hcz : Lib.compact zs' = srtL zs := by rw [compact_srt litC_cmp (hso.imp fun h => Int.not_lt.2 h), srt_perm litC_cmp hp]
          have hzp : zs.length ≤ 1000000 := hz6
          obtain ⟨q, hq⟩ : ∃ q, Hid (Lib.compact zs' = q) := ⟨_, Lib.hid rfl⟩
          rw [hq.out] at hcz HCZ
          have hqr : ∀ x ∈ q, inI x := fun x hx => hRN.out x (by rw [hcz] at hx; exact (srt_mem litC_cmp x zs).1 hx)
          have hql : q.length ≤ 1000000 := by rw [hcz]; exact Nat.le_trans (srt_len zs) hz6
          have HQ : Hid (q = srtL (c.zs.filter st)) := Lib.hid (by rw [hcz, hzs.out])
          have HQR := Lib.hid hqr
          unfold CzP at HCZ
          clear hp hso hown2 hg2 hRN hcz hq hqr HSO HB hzs
          go_wp2_with fail
          refine HCZ.out.mono ?_
          rintro r w3 ⟨A9, c9, rfl, hrow, hg3⟩
          have HB3 := HB2.grown hg3 HB2.size (fun k e => HLT.out k e)
          have HT := Lib.hid (taut_any q A9 c9 w3 ⟨hrow.row, HQR.out, by omega⟩ hql)
          obtain ⟨tq, htq⟩ : ∃ t, Hid (taut q = t) := ⟨_, Lib.hid rfl⟩
          rw [htq.out] at HT
          clear hg3 HB2 HCZ HLT
          go_wp2_with fail
          refine HT.out.mono ?_
          rintro r w4 ⟨rfl, q4, rfl⟩
          have HB4 := Lib.hid (bDrew_ HB3 q4)
          have hrow4 : RowS (w3.drewN q4) _ A9 (zvals q) := hrow.keep (fun _ _ _ => rfl) (fun _ h _ => h) (Nat.le_refl _)
          clear HT hrow HB3
          cases tq with
          | true =>
            have HL2 : Hid (ct l = ((((ct cs).map fun z => z.filter st).take (i + 1)).map srtL).filter fun k => !taut k) := Lib.hid (by
              rw [HTK.out, List.map_append, List.filter_append, ← HLl.out]
              show ct l = ct l ++ List.filter _ [srtL (c.zs.filter st)]
              rw [← HQ.out, List.filter_cons_of_neg (by rw [htq.out]; simp)]; simp)
            have Y2 := HN.out _ HB4.out
            clear HTK HLl HQ HYn HN hrow4
            go_wp2_with fail
            go_roundw
            case rel => exact ⟨i + 1, by omega, by go_num, l, by omega, HL2, Y2⟩
            case measure => simp [intOf]; omega
          | false =>
            have HL2 : Hid (ct (l ++ [⟨A9, c9, q⟩]) = ((((ct cs).map fun z => z.filter st).take (i + 1)).map srtL).filter fun k => !taut k) := Lib.hid (by
              rw [HTK.out, List.map_append, List.filter_append, ← HLl.out]
              show List.map Cl.zs (l ++ [⟨A9, c9, q⟩]) = ct l ++ List.filter _ [srtL (c.zs.filter st)]
              rw [← HQ.out, List.filter_cons_of_pos (by rw [htq.out]; simp), List.map_append]; rfl)
            have ho4 := (HN.out _ HB4.out).own
            have hb4 := HB4.out.size
            have hbw := (HN.out _ HB4.out).bel.size
            have HR4 := Lib.hid hrow4
            clear HTK HLl HQ hrow4
            go_wp2_with (at_builtin; refine wpList_append_lies _ rfl _ _ 22 rfl w.heap.size 34 j0 (.slice none 0 0) 1 24 Try.underlying22 hj0 hy0 hy1 hy2 rfl (by decide) (.slice A5 l.length c5) l.length (cvals l) rfl (ho4.alloc _) ⟨w3.heap.size, 0, none⟩ 1 1 [.slice A9 q.length c9] rfl rfl (cell_one_new _ _ _) (by intro u hu; simp at hu; subst hu; rfl) (by decide) (by unfold maxLen; omega) (by omega) (by rw [World.size_alloc]; omega) _ rfl ?_; intro g cap w8 hown8 hgrow hat hlt8)
            have Y2 := HYn.out (w3.drewN q4) w8 (.slice (some ⟨g, 0, none⟩) (l.length + 1) cap) ⟨A9, c9, q⟩ (.cells #[.slice A9 q.length c9] 34) g cap HB4.out HR4.out HQR.out hql rfl hown8 hgrow hat
            have hll2 : (l ++ [(⟨A9, c9, q⟩ : Cl)]).length ≤ i + 1 := by rw [List.length_append]; simp; omega
            clear hown8 hgrow hat HYn HN ho4 HR4
            go_wp2_with fail
            go_roundw
            case rel => exact ⟨i + 1, by omega, by go_num, l ++ [⟨A9, c9, q⟩], hll2, HL2, Y2⟩
            case measure => simp [intOf]; omega
    · obtain rfl : i = n := by omega
      have hl6 : l.length ≤ 1000000 := by omega
      have HSC := Lib.hid (sortC_gen 53 (fun _ _ => rfl) (fun xs ys A B ca cb W hx hy h1 h2 => cmpfC_top xs ys A B ca cb W hx hy h1 h2) _ _ _ l _ Y.own Y.all hl6)
      have HA := Lib.hid Y.all
      have HLT := Lib.hid (fun k e => (Y.own.lt k e).1)
      have HBe := Lib.hid Y.bel
      have HC : Hid (srt clC (ct l) = canL ((ct cs).map fun z => z.filter st)) := Lib.hid (by
        unfold canL
        rw [HLl.out, List.take_of_length_le (by rw [List.length_map, List.length_map, hn.out]; exact Nat.le_refl _)])
      unfold ScP at HSC
      clear HLl Y HX HS HCX
      go_wp2_with fail
      refine HSC.out.mono ?_
      rintro r w2 ⟨rfl, l', hp, hso, hown2, hg2⟩
      have HB2 := HBe.out.grown hg2 HBe.out.size (fun k e => HLT.out k e)
      have HA2 := Lib.hid (fun c hc => (HA.out c (hp.mem_iff.1 hc)).grown hg2)
      have HCC := Lib.hid (compactP_any _ _ _ l' _ hown2 HA2.out hl6)
      have HC2 : Hid (Lib.compact (ct l') = canL ((ct cs).map fun z => z.filter st)) := Lib.hid (by rw [compact_srt clC_cmp (hso.imp fun h => Int.not_lt.2 h), srt_perm clC_cmp (hp.map Cl.zs)]; exact HC.out)
      have hpl := hp.length_eq
      unfold CcP at HCC
      clear HC HSC HA hp hso hown2 hg2 HBe
      go_wp2_with fail
      refine HCC.out.mono ?_
      rintro r w3 ⟨A9, c9, ds, rfl, hct, hrow, hmem, hg3⟩
      have HB3 := HB2.grown hg3 HB2.size (fun k e => HLT.out k e)
      have hlen : ds.length ≤ 1000000 := by
        have h1 : (ct ds).length ≤ (ct l').length := by rw [hct]; exact compact_len _
        rw [List.length_map, List.length_map] at h1
        omega
      have HLL : Hid (LL w3 w3.heap.size A9 ds) := Lib.hid ⟨hrow.row, fun d hd => ((HA2.out d (hmem d hd)).grown hg3).zs, by omega⟩
      have HE := Lib.hid (hct.trans HC2.out)
      clear HA2 hmem hrow hct HC2 hg3 HCC HB2 HLT
      go_wp2_with fail
      go_ret
      exact ⟨A9, c9, ds, rfl, HE.out, HLL.out, HB3⟩
set_option maxRecDepth 100000 in
set_option maxHeartbeats 4000000 in
theorem canonR_any (lb : Nat) (st : Int → Bool) (cs : List Cl) (A : Option Addr) (ca : Nat) (w : World) (hx : LL w w.heap.size A cs) (hlx : cs.length ≤ 1000000) (hcx : ∀ c ∈ cs, c.zs.length ≤ 1000000)
    (hst : ∀ x, inI x → ∀ W, Below w.heap.size w W → Calls Try.prog 44 (#[.int .i64 x] ++ #[.pointer (some ⟨lb, 0, none⟩)]) W fun e w' => e = .returned (.bool (st x)) ∧ W = w') :
    Calls Try.prog 39 #[.slice A cs.length ca, .func (.func 44) #[] #[.pointer (some ⟨lb, 0, none⟩)]] w (NLL (canL ((ct cs).map fun z => z.filter st)) w) := by
  have X : CnI w w (.slice none 0 0) [] := ⟨World.ownsRow_nil _ _ _ _, fun _ h => absurd h (by simp), Below.refl _ _⟩
  have HX := Lib.hid (fun W (h : Below w.heap.size w W) => hx.below h)
  have HS := Lib.hid hst
  have HCX := Lib.hid hcx
  obtain ⟨i0, hi0, hz0, hz1, hz2⟩ := info_parts infoInt
  obtain ⟨j0, hj0, hy0, hy1, hy2⟩ := info_parts infoInts
  obtain ⟨n, hn⟩ : ∃ n, Hid (cs.length = n) := ⟨_, Lib.hid rfl⟩
  have HL0 : Hid (ct ([] : List Cl) = ((((ct cs).map fun z => z.filter st).take 0).map srtL).filter fun k => !taut k) := Lib.hid rfl
  rw [hn.out] at hlx ⊢
  clear hx hst hcx
  go_enter Try.func39, Try.ntmps39
  go_wp2_with fail
  go_loopw [5, 7, 8, 10, 13] (fun v5 v7 v8 v10 iv wr => ∃ i : Nat, i ≤ n ∧ iv = .int .i64 i ∧ ∃ l : List Cl, l.length ≤ i ∧ Hid (ct l = ((((ct cs).map fun z => z.filter st).take i).map srtL).filter fun k => !taut k) ∧ CnI w wr v5 l) (fun _ _ _ _ iv _ => n - (intOf iv).toNat)
  case atStart => exact ⟨0, Nat.zero_le _, rfl, [], Nat.le_refl _, HL0, X⟩
  case round =>
    clear X HL0
    obtain ⟨i, hi, rfl, l, hll, HLl, Y⟩ := hrel
    obtain ⟨A5, c5, rfl⟩ := own_slice_ Y.own
    by_cases hlt : i < n
    · obtain ⟨b, off, c, rfl, hb, c0, hci, zc⟩ := (HX.out _ Y.bel).at_ (show i < cs.length by rw [hn.out]; exact hlt)
      have hcl : c.zs.length ≤ 1000000 := HCX.out c (List.mem_of_getElem? hci)
      have hW0 := Y.bel.size
      have HN := Lib.hid (fun W (hb : Below wr.heap.size wr W) => Y.below hb)
      have HZ := Lib.hid (fun W (hb : Below wr.heap.size wr W) => zc.below (hb.mono hW0))
      have HSt := Lib.hid (fun x hx W (hb : Below wr.heap.size wr W) => HS.out x hx W (bTrans Y.bel hb))
      have HYn := Lib.hid (fun (w5 w8 : World) (v' : Value) (d : Cl) (o : Obj) (g cap : Nat) h1 h2 h3 h4 h5 h6 h7 h8 => CnI.next (w5 := w5) (w8 := w8) (v' := v') (d := d) (o := o) (g := g) (cap := cap) Y h1 h2 h3 h4 h5 h6 h7 h8)
      have hob : ∀ k, Value.ownBlock (.slice A5 l.length c5) = some k → k < wr.heap.size := fun k hk => (Y.lt hk).2
      have HOB := Lib.hid hob
      obtain ⟨m, hm⟩ : ∃ m, Hid (c.zs.length = m) := ⟨_, Lib.hid rfl⟩
      have Z0 : wr.ownsRow wr.heap.size 3 1 (.slice none 0 0) 0 (zvals []) ∧ Below wr.heap.size wr wr := ⟨World.ownsRow_nil _ _ _ _, Below.refl _ _⟩
      have HF0 : Hid (([] : List Int) = (c.zs.take 0).filter st) := Lib.hid rfl
      have HTK : Hid ((((ct cs).map fun z => z.filter st).take (i + 1)) = (((ct cs).map fun z => z.filter st).take i) ++ [c.zs.filter st]) := Lib.hid (by
        have hlen : i < ((ct cs).map fun z => z.filter st).length := by rw [List.length_map, List.length_map, hn.out]; exact hlt
        rw [List.take_succ_eq_append_getElem hlen]
        congr 1
        rw [List.getElem_map, List.getElem_map]
        have := (List.getElem?_eq_some_iff.1 hci).2
        rw [this])
      rw [hm.out] at c0 hcl
      clear Y zc hci hob
      go_wp2_with fail
      clear c0
      go_loopw [8, 10, 19] (fun v8 v10 jv ws => ∃ j : Nat, j ≤ m ∧ jv = .int .i64 j ∧ ∃ zs : List Int, zs.length ≤ j ∧ Hid (zs = (c.zs.take j).filter st) ∧ Hid (ws.ownsRow wr.heap.size 3 1 v8 zs.length (zvals zs)) ∧ Hid (Below wr.heap.size wr ws)) (fun _ _ jv _ => m - (intOf jv).toNat)
      case atStart => exact ⟨0, Nat.zero_le _, rfl, [], Nat.le_refl _, HF0, Lib.hid Z0.1, Lib.hid Z0.2⟩
      case round =>
        clear Z0 HF0
        obtain ⟨j, hj, rfl, zs, hzl, HF, HO, HB⟩ := hrel
        obtain ⟨A8, c8, rfl⟩ := own_slice_ HO.out
        have hbs := HB.out.size
        by_cases hjm : j < m
        · obtain ⟨b2, off2, x, hax, hb2, c1, hxi, rx⟩ := (HZ.out _ HB.out).at_ (show j < c.zs.length by rw [hm.out]; exact hjm)
          have HC := HSt.out x rx _ HB.out
          rw [hax]
          have HTk : Hid ((c.zs.take (j + 1)).filter st = (c.zs.take j).filter st ++ (if st x then [x] else [])) := Lib.hid (by
            obtain ⟨hjl, hje⟩ := List.getElem?_eq_some_iff.1 hxi
            rw [List.take_succ_eq_append_getElem hjl, List.filter_append, hje]
            cases hs : st x <;> simp [hs])
          obtain ⟨s, hs⟩ : ∃ s, Hid (st x = s) := ⟨_, Lib.hid rfl⟩
          rw [hs.out] at HC HTk
          have HCh := Lib.hid HC
          clear HC hxi rx hs hax
          go_wp2_with fail
          refine HCh.out.mono ?_
          rintro r w2 ⟨rfl, rfl⟩
          clear HCh c1
          cases s with
          | false =>
            have HF2 : Hid (zs = (c.zs.take (j + 1)).filter st) := Lib.hid (by rw [HTk.out, ← HF.out]; simp)
            clear HTk HF
            go_wp2_with fail
            go_roundw
            case rel => exact ⟨j + 1, by omega, by go_num, zs, by omega, HF2, HO, HB⟩
            case measure => simp [intOf]; omega
          | true =>
            have HF2 : Hid (zs ++ [x] = (c.zs.take (j + 1)).filter st) := Lib.hid (by rw [HTk.out, ← HF.out]; simp)
            clear HTk HF
            go_wp2_with (at_builtin; refine wpList_append_lies _ rfl _ _ 34 rfl _ 3 i0 (.int .i64 0) 1 8 Try.underlying34 hi0 hz0 hz1 hz2 rfl (by decide) (.slice A8 zs.length c8) zs.length (zvals zs) rfl (HO.out.alloc _) ⟨wr.heap.size, 0, none⟩ 1 1 [.int .i64 x] rfl rfl (cell_one_new _ _ _) (by intro u hu; simp at hu; subst hu; rfl) (by decide) (by unfold maxLen; omega) (by omega) (by rw [World.size_alloc]; omega) _ rfl ?_; intro g cap w8 hown8 hgrow hat hlt8)
            have HO2 : Hid (w8.ownsRow _ 3 1 (.slice (some ⟨g, 0, none⟩) (zs.length + 1) cap) (zs ++ [x]).length (zvals (zs ++ [x]))) := Lib.hid (by rw [zvals_snoc, List.length_append]; exact hown8)
            have HB2 := Lib.hid ((HB.out.alloc hbs (.cells #[.int .i64 x] 3)).grown hgrow (by rw [World.size_alloc]; omega) (fun k e => (HO.out.lt k e).1))
            have hzl2 : (zs ++ [x]).length ≤ j + 1 := by rw [List.length_append]; simp; omega
            clear hown8 hgrow hat HO HB
            go_wp2_with fail
            go_roundw
            case rel => exact ⟨j + 1, by omega, by go_num, zs ++ [x], hzl2, HF2, HO2, HB2⟩
            case measure => simp [intOf]; omega
        · obtain rfl : j = m := by omega
          have hzs : Hid (zs = c.zs.filter st) := Lib.hid (by rw [HF.out, List.take_of_length_le (by rw [hm.out]; exact Nat.le_refl _)])
          have hrng : ∀ x ∈ zs, inI x := fun x hx => by
            rw [hzs.out] at hx
            exact (HZ.out _ HB.out).rng x (List.mem_filter.1 hx).1
          have hz6 : zs.length ≤ 1000000 := by omega
          have HSO := Lib.hid (sortZ_gen 50 (fun _ _ => rfl) (fun x y hx hy W => lit_any x y hx hy W) _ _ _ zs _ HO.out hrng hz6)
          have hRN := Lib.hid hrng
          have HLT := Lib.hid (fun k e => (HO.out.lt k e).1)
          unfold SzP at HSO
          clear HF HZ HSt HO hrng hm
          go_wp2_with fail
          refine HSO.out.mono ?_
          rintro r w2 ⟨rfl, zs', hp, hso, hown2, hg2⟩
          have HB2 := HB.out.grown hg2 hbs (fun k e => HLT.out k e)
          have HCZ := Lib.hid (compactZ_any _ _ _ zs' _ hown2 hz6)
          have hcz : Lib.compact zs' = srtL zs := by rw [compact_srt litC_cmp (hso.imp fun h => Int.not_lt.2 h), srt_perm litC_cmp hp]
          have hzp : zs.length ≤ 1000000 := hz6
          obtain ⟨q, hq⟩ : ∃ q, Hid (Lib.compact zs' = q) := ⟨_, Lib.hid rfl⟩
          rw [hq.out] at hcz HCZ
          have hqr : ∀ x ∈ q, inI x := fun x hx => hRN.out x (by rw [hcz] at hx; exact (srt_mem litC_cmp x zs).1 hx)
          have hql : q.length ≤ 1000000 := by rw [hcz]; exact Nat.le_trans (srt_len zs) hz6
          have HQ : Hid (q = srtL (c.zs.filter st)) := Lib.hid (by rw [hcz, hzs.out])
          have HQR := Lib.hid hqr
          unfold CzP at HCZ
          clear hp hso hown2 hg2 hRN hcz hq hqr HSO HB hzs
          go_wp2_with fail
          refine HCZ.out.mono ?_
          rintro r w3 ⟨A9, c9, rfl, hrow, hg3⟩
          have HB3 := HB2.grown hg3 HB2.size (fun k e => HLT.out k e)
          have HT := Lib.hid (taut_any q A9 c9 w3 ⟨hrow.row, HQR.out, by omega⟩ hql)
          obtain ⟨tq, htq⟩ : ∃ t, Hid (taut q = t) := ⟨_, Lib.hid rfl⟩
          rw [htq.out] at HT
          clear hg3 HB2 HCZ HLT
          go_wp2_with fail
          refine HT.out.mono ?_
          rintro r w4 ⟨rfl, q4, rfl⟩
          have HB4 := Lib.hid (bDrew_ HB3 q4)
          have hrow4 : RowS (w3.drewN q4) _ A9 (zvals q) := hrow.keep (fun _ _ _ => rfl) (fun _ h _ => h) (Nat.le_refl _)
          clear HT hrow HB3
          cases tq with
          | true =>
            have HL2 : Hid (ct l = ((((ct cs).map fun z => z.filter st).take (i + 1)).map srtL).filter fun k => !taut k) := Lib.hid (by
              rw [HTK.out, List.map_append, List.filter_append, ← HLl.out]
              show ct l = ct l ++ List.filter _ [srtL (c.zs.filter st)]
              rw [← HQ.out, List.filter_cons_of_neg (by rw [htq.out]; simp)]; simp)
            have Y2 := HN.out _ HB4.out
            clear HTK HLl HQ HYn HN hrow4
            go_wp2_with fail
            go_roundw
            case rel => exact ⟨i + 1, by omega, by go_num, l, by omega, HL2, Y2⟩
            case measure => simp [intOf]; omega
          | false =>
            have HL2 : Hid (ct (l ++ [⟨A9, c9, q⟩]) = ((((ct cs).map fun z => z.filter st).take (i + 1)).map srtL).filter fun k => !taut k) := Lib.hid (by
              rw [HTK.out, List.map_append, List.filter_append, ← HLl.out]
              show List.map Cl.zs (l ++ [⟨A9, c9, q⟩]) = ct l ++ List.filter _ [srtL (c.zs.filter st)]
              rw [← HQ.out, List.filter_cons_of_pos (by rw [htq.out]; simp), List.map_append]; rfl)
            have ho4 := (HN.out _ HB4.out).own
            have hb4 := HB4.out.size
            have hbw := (HN.out _ HB4.out).bel.size
            have HR4 := Lib.hid hrow4
            clear HTK HLl HQ hrow4
            go_wp2_with (at_builtin; refine wpList_append_lies _ rfl _ _ 22 rfl w.heap.size 34 j0 (.slice none 0 0) 1 24 Try.underlying22 hj0 hy0 hy1 hy2 rfl (by decide) (.slice A5 l.length c5) l.length (cvals l) rfl (ho4.alloc _) ⟨w3.heap.size, 0, none⟩ 1 1 [.slice A9 q.length c9] rfl rfl (cell_one_new _ _ _) (by intro u hu; simp at hu; subst hu; rfl) (by decide) (by unfold maxLen; omega) (by omega) (by rw [World.size_alloc]; omega) _ rfl ?_; intro g cap w8 hown8 hgrow hat hlt8)
            have Y2 := HYn.out (w3.drewN q4) w8 (.slice (some ⟨g, 0, none⟩) (l.length + 1) cap) ⟨A9, c9, q⟩ (.cells #[.slice A9 q.length c9] 34) g cap HB4.out HR4.out HQR.out hql rfl hown8 hgrow hat
            have hll2 : (l ++ [(⟨A9, c9, q⟩ : Cl)]).length ≤ i + 1 := by rw [List.length_append]; simp; omega
            clear hown8 hgrow hat HYn HN ho4 HR4
            go_wp2_with fail
            go_roundw
            case rel => exact ⟨i + 1, by omega, by go_num, l ++ [⟨A9, c9, q⟩], hll2, HL2, Y2⟩
            case measure => simp [intOf]; omega
    · obtain rfl : i = n := by omega
      have hl6 : l.length ≤ 1000000 := by omega
      have HSC := Lib.hid (sortC_gen 53 (fun _ _ => rfl) (fun xs ys A B ca cb W hx hy h1 h2 => cmpfC_top xs ys A B ca cb W hx hy h1 h2) _ _ _ l _ Y.own Y.all hl6)
      have HA := Lib.hid Y.all
      have HLT := Lib.hid (fun k e => (Y.own.lt k e).1)
      have HBe := Lib.hid Y.bel
      have HC : Hid (srt clC (ct l) = canL ((ct cs).map fun z => z.filter st)) := Lib.hid (by
        unfold canL
        rw [HLl.out, List.take_of_length_le (by rw [List.length_map, List.length_map, hn.out]; exact Nat.le_refl _)])
      unfold ScP at HSC
      clear HLl Y HX HS HCX
      go_wp2_with fail
      refine HSC.out.mono ?_
      rintro r w2 ⟨rfl, l', hp, hso, hown2, hg2⟩
      have HB2 := HBe.out.grown hg2 HBe.out.size (fun k e => HLT.out k e)
      have HA2 := Lib.hid (fun c hc => (HA.out c (hp.mem_iff.1 hc)).grown hg2)
      have HCC := Lib.hid (compactP_any _ _ _ l' _ hown2 HA2.out hl6)
      have HC2 : Hid (Lib.compact (ct l') = canL ((ct cs).map fun z => z.filter st)) := Lib.hid (by rw [compact_srt clC_cmp (hso.imp fun h => Int.not_lt.2 h), srt_perm clC_cmp (hp.map Cl.zs)]; exact HC.out)
      have hpl := hp.length_eq
      unfold CcP at HCC
      clear HC HSC HA hp hso hown2 hg2 HBe
      go_wp2_with fail
      refine HCC.out.mono ?_
      rintro r w3 ⟨A9, c9, ds, rfl, hct, hrow, hmem, hg3⟩
      have HB3 := HB2.grown hg3 HB2.size (fun k e => HLT.out k e)
      have hlen : ds.length ≤ 1000000 := by
        have h1 : (ct ds).length ≤ (ct l').length := by rw [hct]; exact compact_len _
        rw [List.length_map, List.length_map] at h1
        omega
      have HLL : Hid (LL w3 w3.heap.size A9 ds) := Lib.hid ⟨hrow.row, fun d hd => ((HA2.out d (hmem d hd)).grown hg3).zs, by omega⟩
      have HE := Lib.hid (hct.trans HC2.out)
      clear HA2 hmem hrow hct HC2 hg3 HCC HB2 HLT
      go_wp2_with fail
      go_ret
      exact ⟨A9, c9, ds, rfl, HE.out, HLL.out, HB3⟩
end Go.Proofs.Ytdbboeknknlolaa
