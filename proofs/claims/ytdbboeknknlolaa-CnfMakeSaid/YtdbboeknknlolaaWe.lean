/- Walks: the collector: add, fork. -/
import Derived.Test.YtdbboeknknlolaaWd
import Derived.Test.YtdbboeknknlolaaW7
import Derived.Deep.RegionHeld3
namespace Go.Proofs.Ytdbboeknknlolaa
open Go.RowKit Go.Sort
set_option linter.unusedVariables false

/-- the collector's memory: cb: its box; v: its list -/
structure CoS (w W : World) (cb : Nat) (v : Value) (L : List Cl) : Prop where
  be : One W cb v
  own : W.ownsRow (cb + 1) 34 1 v L.length (cvals L)
  all : ∀ c ∈ L, CN W (cb + 1) v.ownBlock c
  bel : Below w.heap.size w W
  hs : w.heap.size ≤ cb
theorem CoS.to {w W w' : World} {cb : Nat} {v : Value} {L : List Cl} (h : CoS w W cb v L) (hb : Below W.heap.size W w') : CoS w w' cb v L :=
  ⟨h.be.below hb h.be.lt, h.own.kept (grown_of_below hb none) (by
      cases hv : v.ownBlock with
      | none => exact .inl rfl
      | some k => exact .inr (by simp)), fun c hc => (h.all c hc).grown (grown_of_below hb _), bTrans h.bel hb, h.hs⟩
/-- the world, cut off at block n -/
abbrev trW (W : World) (n : Nat) : World := { W with heap := W.heap.extract 0 n }
theorem trW_size {W : World} {n : Nat} (h : n ≤ W.heap.size) : (trW W n).heap.size = n := by
  show (W.heap.extract 0 n).size = n
  rw [Array.size_extract]; omega
theorem trW_bel {W : World} {n : Nat} (h : n ≤ W.heap.size) : Below (trW W n).heap.size (trW W n) W := by
  refine ⟨rfl, rfl, rfl, by rw [trW_size h]; exact h, fun k hk => ?_⟩
  rw [trW_size h] at hk
  show W.heap[k]? = (W.heap.extract 0 n)[k]?
  rw [Array.getElem?_extract, if_pos (by omega), Nat.zero_add]
theorem CoS.cni {w W : World} {cb : Nat} {v : Value} {L : List Cl} (h : CoS w W cb v L) : CnI (trW W (cb + 1)) W v L := by
  have hl := h.be.lt
  have e := trW_size (W := W) (n := cb + 1) (by omega)
  exact ⟨by rw [e]; exact h.own, fun c hc => by rw [e]; exact h.all c hc, trW_bel (by omega)⟩
theorem CoS.next {w W w5 w8 : World} {cb : Nat} {v v' : Value} {L : List Cl} {d : Cl} {o : Obj} (h : CoS w W cb v L) (hb : Below W.heap.size W w5) (hn : RowS w5 (fun b => W.heap.size ≤ b) d.ad (zvals d.zs)) (hr : ∀ x ∈ d.zs, inI x) (hdl : d.zs.length ≤ 1000000) {g cap : Nat}
    (hv' : v' = .slice (some ⟨g, 0, none⟩) (L.length + 1) cap) (ho : w8.ownsRow (cb + 1) 34 1 v' (L.length + 1) (cvals L ++ [d.val])) (hg : (w5.alloc o).grownBy w8 v.ownBlock) (hat : v.ownBlock = some g ∨ g = (w5.alloc o).heap.size) :
    One w8 cb v ∧ CoS w (w8.setCell ⟨cb, 0, none⟩ v') cb v' (L ++ [d]) := by
  have hl := h.be.lt
  have e := trW_size (W := W) (n := cb + 1) (by omega)
  have hN := h.cni.next hb hn hr hdl hv' (by rw [e]; exact ho) hg hat
  have h5 := (h.to hb)
  have hne : some cb ≠ v.ownBlock := fun e => by
    have := (h.own.lt cb e.symm).1
    omega
  have h8 : One w8 cb v := by
    have h6 := h5.be.alloc o
    have hl6 := h6.lt
    obtain ⟨T, h6⟩ := h6.blk
    exact ⟨T, (hg.block cb hl6 hne).trans h6⟩
  have hv2 : v'.ownBlock ≠ some cb := by
    rw [hv']
    intro e
    have e2 : g = cb := by simpa [Value.ownBlock] using e
    rcases hat with hat | hat
    · exact hne (by rw [hat, e2])
    · rw [World.size_alloc] at hat
      have := hb.size
      omega
  have hB : Below w.heap.size w w8 := by
    refine (h5.bel.alloc h5.bel.size o).grown hg (by rw [World.size_alloc]; have := h5.bel.size; omega) (fun k e => ?_)
    have := (h.own.lt k e).1
    have := h.hs
    omega
  refine ⟨h8, h8.put v', ?_, fun c hc => ?_, hB.setCell (by have := h.hs; show w.heap.size ≤ cb; omega) v', h.hs⟩
  · have := hN.own
    rw [e] at this
    exact this.kept (grown_set w8 cb 0 v') (.inr hv2)
  · have := hN.all c hc
    rw [e] at this
    exact ⟨this.row.keep (fun p hp hl => World.cell?_of_block (Below.heap_setCell w8 ⟨cb, 0, none⟩ v' p.block (by have := hp.1; show p.block ≠ cb; omega))) (fun b hb _ => hb) (by simp [World.setCell]), this.rng, this.len⟩
/-- the variadic row of a call -/
theorem row_made (W : World) (cur : Array Value) (zs : List Int) (hc : cur.toList = zvals zs) (hl : zs.length ≤ 1000) : (W.alloc (.cells cur 3)).ownsRow W.heap.size 3 1 (.slice (some ⟨W.heap.size, 0, none⟩) zs.length zs.length) zs.length (zvals zs) := by
  have hs : cur.size = zs.length := by rw [← Array.length_toList, hc, zvals_length]
  exact ⟨by rw [zvals_length]; omega, .inr ⟨W.heap.size, zs.length, cur, rfl, Nat.le_refl _, heap_alloc_new W _, Nat.le_refl _, by unfold maxLen; omega, by omega, by rw [hc, List.take_of_length_le]; rw [zvals_length]; omega⟩⟩
/-- what add makes of the list -/
def addL (L : List (List Int)) (zs : List Int) : List (List Int) := if 20001 ∈ zs then L else L ++ [zs.filter nof]
def CoR (w : World) (cb : Nat) (L : List (List Int)) (r : Ending) (w' : World) : Prop := r = .returned (.tuple #[]) ∧ ∃ v L', ct L' = L ∧ CoS w w' cb v L'
set_option maxRecDepth 100000 in
set_option maxHeartbeats 2000000 in
theorem add_any {w W : World} {cb : Nat} {v : Value} {L : List Cl} (X : CoS w W cb v L) (cur : Array Value) (zs : List Int) (hc : cur.toList = zvals zs) (hr : ∀ x ∈ zs, inI x) (hl : zs.length ≤ 1000) (hL : L.length ≤ 1000) (n : Nat) (hn : zs.length = n) :
    Calls Try.prog 65 #[.pointer (some ⟨cb, 0, none⟩), .slice (some ⟨W.heap.size, 0, none⟩) n n] (W.alloc (.cells cur 3)) (CoR w cb (addL (ct L) zs)) := by
  subst hn
  have HR := row_made W cur zs hc hl
  have hZ : Zs (W.alloc (.cells cur 3)) (W.alloc (.cells cur 3)).heap.size (some ⟨W.heap.size, 0, none⟩) zs := ⟨(RowS.of_own HR (by decide)).row, hr, by omega⟩
  have HC := Lib.hid (contains_any zs 20001 _ zs.length _ hZ (by omega))
  obtain ⟨j0, hj0, hy0, hy1, hy2⟩ := info_parts infoInts
  have hA : addL (ct L) zs = if 20001 ∈ zs then ct L else ct L ++ [zs.filter nof] := rfl
  have HA := Lib.hid hA
  obtain ⟨R, hR⟩ : ∃ R, Hid (addL (ct L) zs = R) := ⟨_, Lib.hid rfl⟩
  rw [hR.out] at HA ⊢
  obtain ⟨n, hn⟩ : ∃ n, Hid (zs.length = n) := ⟨_, Lib.hid rfl⟩
  have hB1 := al1 W (.cells cur 3)
  obtain ⟨g, hg⟩ : ∃ g, Hid (W.heap.size = g) := ⟨_, Lib.hid rfl⟩
  have X1 := X.to hB1
  obtain ⟨e, he⟩ : ∃ e, Hid (decide ((20001 : Int) ∈ zs) = e) := ⟨_, Lib.hid rfl⟩
  rw [he.out] at HC
  rw [hn.out] at HC HR ⊢
  rw [hg.out] at HC ⊢
  have HRh := Lib.hid HR
  have HB1 := Lib.hid hB1
  have hl1 := X.be.lt
  clear hA hR HR hZ hB1 hc
  revert HB1
  revert HRh
  revert X1
  revert HC
  generalize W.alloc (.cells cur 3) = W1
  intro HC X1 HRh HB1
  go_enter Try.func65, Try.ntmps65
  go_wp2_with fail
  refine HC.out.mono ?_
  rintro r w2 ⟨rfl, q, rfl⟩
  clear HC
  cases e with
  | true =>
    have X2 := X1.to (Dr.dr W1 q).bel
    have HE : Hid (ct L = R) := Lib.hid (by rw [HA.out, if_pos (of_decide_eq_true he.out)])
    clear X1 X HRh HB1 he HA
    go_wp2_with fail
    (try simp only [Exit.inBlock, Exit.then])
    refine bodyPost_ret (results_none rfl _ _ _) rfl ?_
    exact ⟨rfl, v, L, HE.out, X2⟩
  | false =>
    have HE : Hid (ct L ++ [zs.filter nof] = R) := Lib.hid (by rw [HA.out, if_neg (of_decide_eq_false he.out)])
    have HD := Lib.hid (delf_any g g n n zs (W1.drewN (q + 1)) (by have := HRh.out; rw [hg.out] at this; exact this) hr (by have := hn.out; omega))
    have HB2 : Hid (Below W.heap.size W (W1.drewN (q + 1))) := Lib.hid (HB1.out.trans ((Gro.dr W1 (q + 1)).bel.mono HB1.out.size))
    have c0 := X1.be.c
    have X5 := Lib.hid (fun w5 (h : Below W.heap.size W w5) => X.to h)
    have XN := Lib.hid (fun (w5 w8 : World) (v' : Value) (d : Cl) (o : Obj) (g cap : Nat) h1 h2 h3 h4 h5 h6 h7 h8 => CoS.next (w5 := w5) (w8 := w8) (v' := v') (d := d) (o := o) (g := g) (cap := cap) X h1 h2 h3 h4 h5 h6 h7 h8)
    have HRh2 := Lib.hid hr
    clear X1 HRh HB1 he HA X hr
    go_wp2_with fail
    go_region_law (first
      | (go_simp; go_at_call 100; (with_reducible refine HD.out.mono ?_); rintro r w5 ⟨⟨c5, rfl⟩, r5, hg5⟩; have b5 : Below W.heap.size W w5 := HB2.out.grown hg5 HB2.out.size (fun k e => by cases e; exact Nat.le_of_eq hg.out); have Y5 := X5.out w5 b5; have x5 := Y5.be.c; have x6 := fun o => (Y5.be.alloc o).c; have hl5 := Y5.be.lt; have r6 : RowS w5 (fun b => W.heap.size ≤ b) (some ⟨g, 0, none⟩) (zvals (zs.filter nof)) := by { rw [hg.out]; exact r5 })
      | (refine step_append_lies _ (by rfl) _ _ 22 (by rfl) (cb + 1) 34 j0 (.slice none 0 0) 1 24 Try.underlying22 hj0 hy0 hy1 hy2 (by decide) (by decide) v L.length (cvals L) (by rfl) (Y5.own.alloc _) ⟨w5.heap.size, 0, none⟩ 1 1 [.slice (some ⟨g, 0, none⟩) (zs.filter nof).length c5] (by rfl) (by rfl) (cell_one_new _ _ _) (by intro u hu; simp at hu; subst hu; rfl) (by decide) (by unfold maxLen; omega) (by omega) (by rw [World.size_alloc]; omega) _ rfl ?_; intro g8 cap w8 hown8 hgrow hat hlt8; have Y8 := XN.out w5 w8 _ ⟨some ⟨g, 0, none⟩, c5, zs.filter nof⟩ _ g8 cap b5 r6 (fun x hx => HRh2.out x (List.mem_filter.1 hx).1) (Nat.le_trans (List.length_filter_le _ _) (by have := hn.out; omega)) rfl hown8 hgrow hat; have c8 := Y8.1.c; have f8 := Y8.1.fr 0; have X8 := Y8.2))
    all_goals
      refine bodyPost_end (results_none rfl _ _ _) rfl ?_
      exact ⟨rfl, _, _, by rw [← HE.out]; simp, X8⟩
theorem CoR.get {w w' : World} {cb : Nat} {L : List (List Int)} {r : Ending} (h : CoR w cb L r w') : r = .returned (.tuple #[]) ∧ ∃ v L', ct L' = L ∧ CoS w w' cb v L' := h
set_option maxRecDepth 100000 in
set_option maxHeartbeats 2000000 in
theorem fork_any {w W : World} {cb : Nat} {v : Value} {L : List Cl} (X : CoS w W cb v L) (a b l h : Int) (ha : -30000 ≤ a ∧ a ≤ 30000) (hb : -30000 ≤ b ∧ b ≤ 30000) (hl : -30000 ≤ l ∧ l ≤ 30000) (hh : -30000 ≤ h ∧ h ≤ 30000) (hL : L.length ≤ 900) :
    Calls Try.prog 66 #[.pointer (some ⟨cb, 0, none⟩), .int .i64 a, .int .i64 b, .int .i64 l, .int .i64 h] W (CoR w cb (addL (addL (ct L) [-a, -b, h]) [-a, b, l])) := by
  have C1 := Lib.hid (add_any X #[.int .i64 (-a), .int .i64 (-b), .int .i64 h] [-a, -b, h] rfl (by intro x hx; unfold inI; simp at hx; omega) (by simp) (by omega) 3 rfl)
  have C2 := Lib.hid (fun W2 v2 L2 (X2 : CoS w W2 cb v2 L2) (h2 : L2.length ≤ 1000) => add_any X2 #[.int .i64 (-a), .int .i64 b, .int .i64 l] [-a, b, l] rfl (by intro x hx; unfold inI; simp at hx; omega) (by simp) h2 3 rfl)
  have HL : Hid ((addL (ct L) [-a, -b, h]).length ≤ 1000) := Lib.hid (by
    unfold addL
    have : (ct L).length = L.length := by simp
    split
    · omega
    · rw [List.length_append]; simp; omega)
  obtain ⟨L1, hL1⟩ : ∃ L1, Hid (addL (ct L) [-a, -b, h] = L1) := ⟨_, Lib.hid rfl⟩
  rw [hL1.out] at C1 HL ⊢
  have na := IntWalk.i64_in (-a) (by omega)
  have nb := IntWalk.i64_in (-b) (by omega)
  clear hL1 X
  go_enter Try.func66, Try.ntmps66
  go_wp2_with fail
  refine C1.out.mono ?_
  rintro r w2 ⟨rfl, v2, L2, rfl, X2⟩
  have C3 := Lib.hid (C2.out _ _ _ X2 (by have := HL.out; simpa using this))
  clear C1 C2 X2 HL
  go_wp2_with fail
  refine C3.out.mono ?_
  rintro r w3 ⟨rfl, v3, L3, h3, X3⟩
  clear C3
  go_wp2_with fail
  refine bodyPost_end (results_none rfl _ _ _) rfl ?_
  exact ⟨rfl, v3, L3, h3, X3⟩
end Go.Proofs.Ytdbboeknknlolaa
