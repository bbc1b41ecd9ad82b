/- Sorting and compacting lists of clauses of the call's own. -/
import Derived.Test.YtdbboeknknlolaaW3
namespace Go.Proofs.Ytdbboeknknlolaa
open Go.RowKit Go.Sort
set_option linter.unusedVariables false

/-- a clause that a call made, away from the block o -/
structure CN (w : World) (base : Nat) (o : Option Nat) (c : Cl) : Prop where
  row : RowS w (fun b => base ≤ b ∧ some b ≠ o) c.ad (zvals c.zs)
  rng : ∀ x ∈ c.zs, inI x
  len : c.zs.length ≤ 1000000
theorem CN.zs {w : World} {base : Nat} {o : Option Nat} {c : Cl} (h : CN w base o c) : Zs w w.heap.size c.ad c.zs := ⟨h.row.row, h.rng, by have := h.len; omega⟩
theorem CN.grown {w w' : World} {base : Nat} {o : Option Nat} {c : Cl} (h : CN w base o c) (hg : w.grownBy w' o) : CN w' base o c :=
  ⟨h.row.keep (fun p hp hl => World.cell?_of_block (hg.block p.block hl hp.2)) (fun b hb _ => hb) hg.size, h.rng, h.len⟩
theorem CN.gro {w w' : World} {base : Nat} {o : Option Nat} {c : Cl} (h : CN w base o c) (hg : Gro w w') : CN w' base o c := h.grown (hg.grown o)
/-- what sorting clauses leaves -/
def ScP (base : Nat) (v : Value) (n : Nat) (cs : List Cl) (w : World) (r : Ending) (w' : World) : Prop :=
  r = .returned (.tuple #[]) ∧ ∃ cs' : List Cl, cs'.Perm cs ∧ (ct cs').Pairwise (fun a b => ¬ clC b a < 0) ∧ w'.ownsRow base 34 1 v n (cvals cs') ∧ w.grownBy w' v.ownBlock
theorem cl_list {p : Cl → Prop} {cs : List Cl} (h : ∀ c ∈ cs, p c) : ∃ L : List { c : Cl // p c }, L.map Subtype.val = cs := by
  induction cs with
  | nil => exact ⟨[], rfl⟩
  | cons x l ih =>
    obtain ⟨L, hL⟩ := ih fun y hy => h y (by simp [hy])
    exact ⟨⟨x, h x (by simp)⟩ :: L, by rw [List.map_cons, hL]⟩
theorem sortC_gen (f : Nat) (eg : ∀ args w, (callFunc f args).run Try.prog w = .ok (.enter f args) w)
    (hf : ∀ (xs ys : List Int) (A B : Option Addr) (ca cb : Nat) (W : World), Zs W W.heap.size A xs → Zs W W.heap.size B ys → xs.length ≤ 1000000 → ys.length ≤ 1000000 → Calls Try.prog f #[.slice A xs.length ca, .slice B ys.length cb] W fun e w' => e = .returned (.int .i64 (clC xs ys)) ∧ Gro W w')
    (base : Nat) (v : Value) (n : Nat) (cs : List Cl) (w : World) (hown : w.ownsRow base 34 1 v n (cvals cs)) (hall : ∀ c ∈ cs, CN w base v.ownBlock c) (hn : n ≤ 1000000) :
    Calls Try.prog 34 #[v, .func (.func f) #[] #[]] w (ScP base v n cs w) := by
  have hl : cs.length = n := by have := own_len hown; rwa [cvals_length] at this
  by_cases hn0 : n = 0
  · subst hn0
    obtain rfl := List.eq_nil_of_length_eq_zero hl
    obtain ⟨A, c, rfl⟩ := own_slice_ hown
    exact (Try.slices_SortFunc_none_f34 (α := ZI) A c (.func (.func f) #[] #[]) w).mono fun e w' ⟨he, hw⟩ => ⟨he, [], List.Perm.refl _, .nil, by rw [hw]; exact hown, by rw [hw]; exact grown_refl _ _⟩
  · obtain ⟨g, cap, rfl, hb, hlt⟩ := hown.form (by omega)
    have hall' : ∀ c ∈ cs, CN w base (some g) c := hall
    clear hall
    obtain ⟨L, rfl⟩ := cl_list hall'
    have e0 : cvals (L.map Subtype.val) = L.map (fun a => Cl.val a.1) := by unfold cvals; rw [List.map_map]; rfl
    rw [e0] at hown
    have hs : L.toArray.size = n := by simpa using hl
    have hLl : L.length = n := by simpa using hl
    have hpos : 0 < L.length := by omega
    subst hs
    have hinh : Inhabited { c : Cl // CN w base (some g) c } := ⟨L[0]'hpos⟩
    have H := Try.slices_SortFunc_f34 (α := { c : Cl // CN w base (some g) c }) (fun a => Cl.val a.1) (fun _ => rfl) (fun a b => clC a.1.zs b.1.zs) (swo_of clC_cmp (fun (a : { c : Cl // CN w base (some g) c }) => a.1.zs)) f #[] g 0 cap L.toArray w eg
      (fun m os dk _ x y => by
        have hg := put_grown (fun a : { c : Cl // CN w base (some g) c } => Cl.val a.1) w g m dk os
        have := hf x.1.zs y.1.zs x.1.ad y.1.ad x.1.cap y.1.cap (sortWorld (fun a : { c : Cl // CN w base (some g) c } => Cl.val a.1) w g 0 m dk os) (x.2.grown hg).zs (y.2.grown hg).zs x.2.len y.2.len
        exact this.mono fun e w' ⟨he, q, os', hw⟩ => ⟨he, q, os', hw⟩)
      (own_holds _ hown) hlt (by omega)
    refine H.mono fun e w' ⟨he, d', k, os, hp, hso, hw⟩ => ⟨he, d'.toList.map Subtype.val, ?_, ?_, ?_, ?_⟩
    · exact (perm_list hp).map _
    · have h1 := sorted_list hp.1 hso
      unfold ct
      rw [List.pairwise_map, List.pairwise_map]
      refine h1.imp fun {a b} h => ?_
      unfold ltOf at h
      simpa using h
    · have e1 : cvals (d'.toList.map Subtype.val) = d'.toList.map (fun a => Cl.val a.1) := by unfold cvals; rw [List.map_map]; rfl
      rw [e1, hw]
      exact own_put _ hown d' hp.1 k os
    · rw [hw]; exact put_grown _ w g k d' os
theorem own_set {w : World} {base e g n cap : Nat} {xs : List Value} (h : w.ownsRow base e 1 (.slice (some ⟨g, 0, none⟩) n cap) n xs) (k : Nat) (u : Value) :
    (w.setCell ⟨g, k, none⟩ u).ownsRow base e 1 (.slice (some ⟨g, 0, none⟩) n cap) n (xs.set k u) := by
  rcases h.2 with ⟨h0, _⟩ | ⟨g', cap', cur, hv, hb, hg, h1, h2, h3, h4⟩
  · cases h0
  injection hv with hv1 hv2 hv3
  injection hv1 with hv4
  injection hv4 with hv5
  subst hv5 hv3
  refine ⟨by rw [List.length_set]; exact h.1, .inr ⟨g, cap, cur.setIfInBounds k u, rfl, hb, by simp [World.setCell, Array.getElem?_modify, hg], h1, h2, by simpa using h3, ?_⟩⟩
  rw [← h4, Array.toList_setIfInBounds, List.take_set]
theorem own_drew {w : World} {base e z n : Nat} {v : Value} {xs : List Value} (h : w.ownsRow base e z v n xs) (q : Nat) : (w.drewN q).ownsRow base e z v n xs := ⟨h.1, h.2⟩
theorem own_cell {w : World} {base e g n cap : Nat} {cs : List Cl} (h : w.ownsRow base e 1 (.slice (some ⟨g, 0, none⟩) n cap) n (cvals cs)) {j : Nat} {c : Cl} (hj : cs[j]? = some c) : w.cell? ⟨g, j, none⟩ = some (.slice c.ad c.zs.length c.cap) ∧ w.frozen? ⟨g, j, none⟩ = false := by
  rcases h.2 with ⟨h0, _⟩ | ⟨g', cap', cur, hv, hb, hg, h1, h2, h3, h4⟩
  · cases h0
  injection hv with hv1 hv2 hv3
  injection hv1 with hv4
  injection hv4 with hv5
  subst hv5
  refine ⟨?_, frozen_of_row w g j _ _ hg⟩
  rw [cell_of_row w g j _ _ _ hg]
  have hl : (cvals cs).length = n * 1 := h.1
  rw [cvals_length] at hl
  have hj' := (List.getElem?_eq_some_iff.1 hj).1
  have e1 : (cur.toList.take (n * 1))[j]? = cur[j]? := by rw [List.getElem?_take_of_lt (by omega), Array.getElem?_toList]
  rw [← e1, h4]
  unfold cvals
  rw [List.getElem?_map, hj]; rfl
/-- the compacting of a list of clauses under way: m looked at, k kept -/
structure CI (cs : List Cl) (m k : Nat) (dk : List Cl) : Prop where
  len : dk.length = cs.length
  lt : k < m
  high : ∀ j, k ≤ j → dk[j]? = cs[j]?
  low : ct (dk.take k) = Lib.compactUpTo (ct cs).toArray m
  mem : ∀ c ∈ dk, c ∈ cs
theorem ct_get {cs : List Cl} {j : Nat} {c : Cl} (h : cs[j]? = some c) : (ct cs).toArray[j]! = c.zs := by
  have hj := (List.getElem?_eq_some_iff.1 h).1
  rw [getElem!_pos (ct cs).toArray j (by simpa using hj)]
  have := (List.getElem?_eq_some_iff.1 h).2
  simp [this]
theorem kp_first (cs : List Cl) : ∀ j, j < 1 → Lib.keeps (ct cs).toArray j = true := Lib.keeps_lt_one _
theorem up_all {cs : List Cl} {k : Nat} (hk : k ≤ cs.length) (h : ∀ j, j < k → Lib.keeps (ct cs).toArray j = true) : Lib.compactUpTo (ct cs).toArray k = ct (cs.take k) := by
  rw [Lib.compactUpTo_all _ _ h]
  apply List.ext_getElem?
  intro j
  by_cases hj : j < k
  · rw [List.getElem?_map, List.getElem?_range hj, Option.map_some, List.getElem?_map, List.getElem?_take_of_lt hj, List.getElem?_eq_getElem (by omega), Option.map_some, ct_get (List.getElem?_eq_getElem (by omega))]
  · rw [List.getElem?_eq_none (by simp; omega), List.getElem?_eq_none (by simp; omega)]
theorem CI.start {cs : List Cl} {k : Nat} (hk : k < cs.length) (hall : ∀ j, j < k → Lib.keeps (ct cs).toArray j = true) (hd : Lib.keeps (ct cs).toArray k = false) : CI cs (k + 1) k cs :=
  ⟨rfl, by omega, fun _ _ => rfl, by rw [Lib.compactUpTo_succ, hd, up_all (by omega) hall]; simp, fun _ h => h⟩
theorem CI.skip {cs dk : List Cl} {m k : Nat} (h : CI cs m k dk) (hd : Lib.keeps (ct cs).toArray m = false) : CI cs (m + 1) k dk :=
  ⟨h.len, by have := h.lt; omega, h.high, by rw [Lib.compactUpTo_succ, hd, h.low]; simp, h.mem⟩
theorem CI.keep {cs dk : List Cl} {m k : Nat} (h : CI cs m k dk) {c : Cl} (hc : cs[m]? = some c) (hd : Lib.keeps (ct cs).toArray m = true) : CI cs (m + 1) (k + 1) (dk.set k c) := by
  have hm := (List.getElem?_eq_some_iff.1 hc).1
  have hlt := h.lt
  have hl := h.len
  refine ⟨by rw [List.length_set, h.len], by omega, fun j hj => by rw [List.getElem?_set_ne (by omega)]; exact h.high j (by omega), ?_, fun x hx => ?_⟩
  · rw [Lib.compactUpTo_succ, hd, if_pos rfl, ct_get hc, ← h.low]
    have e1 : (dk.set k c).take (k + 1) = dk.take k ++ [c] := by
      rw [List.take_succ_eq_append_getElem (by rw [List.length_set]; omega), List.getElem_set_self, List.take_set_of_le (Nat.le_refl _)]
    rw [e1]
    show List.map Cl.zs _ = _
    rw [List.map_append]; rfl
  · rcases List.mem_or_eq_of_mem_set hx with h1 | h1
    · exact h.mem x h1
    · subst h1; exact List.mem_of_getElem? hc
theorem CI.done {cs dk : List Cl} {k : Nat} (h : CI cs cs.length k dk) : ct (dk.take k) = Lib.compact (ct cs) := by
  rw [h.low]; unfold Lib.compact; rw [List.length_map]
theorem kp_pos {cs : List Cl} {m : Nat} {c d : Cl} (hc : cs[m + 1]? = some c) (hd : cs[m]? = some d) : Lib.keeps (ct cs).toArray (m + 1) = !decide (c.zs = d.zs) := by
  unfold Lib.keeps
  rw [show m + 1 - 1 = m by omega, ct_get hc, ct_get hd]
  by_cases h : c.zs = d.zs <;> simp [h]
/-- what compacting clauses leaves -/
def CcP (base : Nat) (v : Value) (cs : List Cl) (w : World) (r : Ending) (w' : World) : Prop :=
  ∃ A c ds, r = .returned (.slice A ds.length c) ∧ ct ds = Lib.compact (ct cs) ∧ RowS w' (fun b => base ≤ b) A (cvals ds) ∧ (∀ d ∈ ds, d ∈ cs) ∧ w.grownBy w' v.ownBlock
theorem row_take {w : World} {base e g n cap : Nat} {cs : List Cl} (h : w.ownsRow base e 1 (.slice (some ⟨g, 0, none⟩) n cap) n (cvals cs)) (k : Nat) : RowS w (fun b => base ≤ b) (some ⟨g, 0, none⟩) (cvals (cs.take k)) := by
  have hr := RowS.of_own h (by decide)
  refine ⟨fun h0 => ?_⟩
  rw [cvals_length, List.length_take] at h0
  obtain ⟨b, off, e1, e2, e3, e4⟩ := hr.cells (by rw [cvals_length]; omega)
  refine ⟨b, off, e1, e2, e3, fun j u hu => e4 j u ?_⟩
  have hj := (List.getElem?_eq_some_iff.1 hu).1
  rw [cvals_length, List.length_take] at hj
  rw [← hu]
  unfold cvals
  rw [List.getElem?_map, List.getElem?_map, List.getElem?_take_of_lt (by omega)]
theorem setCells_grown (g : Nat) : ∀ (vs : List Value) (k : Nat) (w : World), w.grownBy (w.setCells g k vs) (some g)
  | [], k, w => grown_refl _ _
  | v :: r, k, w => grown_trans (grown_set w g k v) (setCells_grown g r (k + 1) _)
theorem RowS.cells_out {w : World} {S : Nat → Prop} {g k : Nat} {xs : List Value} (h : RowS w S (some ⟨g, 0, none⟩) xs) (hk : xs.length ≤ k) (vs : List Value) : RowS (w.setCells g k vs) S (some ⟨g, 0, none⟩) xs := ⟨fun h0 => by
  obtain ⟨b, off, e1, e2, e3, e4⟩ := h.cells h0
  cases e1
  refine ⟨g, 0, rfl, e2, Nat.lt_of_lt_of_le e3 (setCells_grown g vs k w).size, fun j u hu => ?_⟩
  have hj := (List.getElem?_eq_some_iff.1 hu).1
  rw [World.cell?_setCells_out]
  · exact e4 j u hu
  · intro _ _; left; show 0 + j < k; omega⟩
set_option maxRecDepth 100000 in
set_option maxHeartbeats 2000000 in
theorem compactP_any (base : Nat) (v : Value) (n : Nat) (cs : List Cl) (w : World) (hown : w.ownsRow base 34 1 v n (cvals cs)) (hall : ∀ c ∈ cs, CN w base v.ownBlock c) (hn : n ≤ 1000000) :
    Calls Try.prog 36 #[v, .func (.func 24) #[] #[]] w (CcP base v cs w) := by
  have hl : cs.length = n := by have := own_len hown; rwa [cvals_length] at this
  by_cases hn2 : n < 2
  · have hall1 : ∀ j, j < n → Lib.keeps (ct cs).toArray j = true := fun j hj => kp_first cs j (by omega)
    have hct : ct cs = Lib.compact (ct cs) := by
      unfold Lib.compact
      rw [List.length_map, hl, up_all (by omega) hall1, List.take_of_length_le (by omega)]
    obtain ⟨A, c, rfl⟩ := own_slice_ hown
    have hr := RowS.of_own hown (by decide)
    have HE : Hid (Ending.returned (.slice A n c) = .returned (.slice A cs.length c)) := Lib.hid (by rw [hl])
    have q : decide ((n : Int) < 2) = true := by rw [decide_eq_true_eq]; omega
    clear hown hall hall1 hl hn
    go_enter Try.func36, Try.ntmps36
    go_wp2_with fail
    go_ret
    exact ⟨A, c, cs, HE.out, hct, hr, fun _ h => h, grown_refl _ _⟩
  · obtain ⟨g, cap, rfl, hb, hgl⟩ := hown.form (by omega)
    have hncap : n ≤ cap := by
      rcases hown.2 with ⟨h0, _⟩ | ⟨g', cap', cur, hv, _, _, h1, _⟩
      · cases h0
      · injection hv with _ _ hv3; subst hv3; exact h1
    have HALL := Lib.hid (fun W (hg : w.grownBy W (some g)) => show ∀ c ∈ cs, CN W base (some g) c from fun c hc => (hall c hc).grown hg)
    have X : w.ownsRow base 34 1 (.slice (some ⟨g, 0, none⟩) n cap) n (cvals cs) ∧ w.grownBy w (some g) := ⟨hown, grown_refl _ _⟩
    have hln := Lib.hid hl
    have q : decide ((n : Int) < 2) = false := by rw [decide_eq_false_iff_not]; omega
    have HK0 := Lib.hid (kp_first cs)
    clear hall hown hl
    go_enter Try.func36, Try.ntmps36
    go_wp2_with fail
    go_loopw [5, 6, 7] (fun kv v6 v7 wr => ∃ k : Nat, 1 ≤ k ∧ k ≤ n ∧ kv = .int .i64 k ∧ Hid (∀ j, j < k → Lib.keeps (ct cs).toArray j = true) ∧ wr.ownsRow base 34 1 (.slice (some ⟨g, 0, none⟩) n cap) n (cvals cs) ∧ w.grownBy wr (some g)) (fun kv _ _ _ => n - (intOf kv).toNat)
    case atStart => exact ⟨1, Nat.le_refl _, by omega, rfl, HK0, X.1, X.2⟩
    case round =>
      clear X HK0
      obtain ⟨k, hk1, hk, rfl, hkp, Y, G⟩ := hrel
      by_cases hlt : k < n
      · obtain ⟨m, hm⟩ : ∃ m, Hid (k = m + 1) := ⟨k - 1, Lib.hid (by omega)⟩
        have hmI : IntKind.i64.wrap ((k : Int) - 1) = (m : Int) := by
          have := hm.out
          rw [IntWalk.i64_in _ (by omega)]; omega
        have hmn : m < n := by have := hm.out; omega
        have hkl : k < cs.length := by rw [hln.out]; exact hlt
        have hml : m < cs.length := by rw [hln.out]; exact hmn
        have hxk := List.getElem?_eq_getElem hkl
        have hxm := List.getElem?_eq_getElem hml
        obtain ⟨x, hx⟩ : ∃ x, Hid (cs[k]? = some x) := ⟨_, Lib.hid hxk⟩
        obtain ⟨y, hy⟩ : ∃ y, Hid (cs[m]? = some y) := ⟨_, Lib.hid hxm⟩
        have cx := (own_cell Y hx.out).1
        have cy := (own_cell Y hy.out).1
        have nx := HALL.out wr G x (List.mem_of_getElem? hx.out)
        have ny := HALL.out wr G y (List.mem_of_getElem? hy.out)
        have HQ := Lib.hid (fun q => seq_any x.zs y.zs x.ad y.ad x.cap y.cap (wr.drewN q) (nx.gro (Gro.dr wr q)).zs (ny.gro (Gro.dr wr q)).zs nx.len ny.len)
        have hkeep := hm.out ▸ kp_pos (cs := cs) (m := m) (c := x) (d := y) (hm.out ▸ hx.out) hy.out
        have hkeep2 : Hid (Lib.keeps (ct cs).toArray k = !decide (x.zs = y.zs)) := Lib.hid (by have := kp_pos (cs := cs) (m := m) (c := x) (d := y) (hm.out ▸ hx.out) hy.out; rw [← hm.out] at this; exact this)
        obtain ⟨e, he⟩ : ∃ e, Hid (decide (x.zs = y.zs) = e) := ⟨_, Lib.hid rfl⟩
        rw [he.out] at HQ hkeep2
        have Yh := Lib.hid Y
        have Gh := Lib.hid G
        clear hxk hxm hkl hml hx hy nx ny he hkeep Y G hm
        cases e with
        | false =>
          go_wp2_with fail
          go_quiet ((go_at_call 24; exact quiet_of_drew (HQ.out _)))
          go_wp2_with fail
          go_roundw
          case rel => exact ⟨k + 1, by omega, by omega, by go_num, Lib.hid (fun j hj => by
            rcases Nat.lt_or_ge j k with h | h
            · exact hkp.out j h
            · obtain rfl : j = k := by omega
              exact hkeep2.out), own_drew Yh.out _, grown_trans Gh.out ((Gro.dr _ _).grown _)⟩
          case measure => simp [intOf]; omega
        | true =>
          have C0 : CI cs (k + 1) k cs := CI.start (by rw [hln.out]; exact hlt) hkp.out hkeep2.out
          have HC0 := Lib.hid C0
          clear C0 hkp hkeep2
          go_wp2_with fail
          go_quiet ((go_at_call 24; exact quiet_of_drew (HQ.out _)))
          clear cx cy HQ
          go_wp2_with fail
          go_loopw [5, 7] (fun kv k2v wr => ∃ (kk k2 : Nat) (dk : List Cl), kv = .int .i64 kk ∧ k2v = .int .i64 k2 ∧ 1 ≤ k2 ∧ k + k2 ≤ n ∧ kk < n ∧ Hid (CI cs (k + k2) kk dk) ∧ Hid (wr.ownsRow base 34 1 (.slice (some ⟨g, 0, none⟩) n cap) n (cvals dk)) ∧ Hid (w.grownBy wr (some g))) (fun _ k2v _ => n - (intOf k2v).toNat)
          case atStart => exact ⟨k, 1, cs, rfl, rfl, Nat.le_refl _, by omega, hlt, HC0, Lib.hid (own_drew Yh.out _), Lib.hid (grown_trans Gh.out ((Gro.dr _ _).grown _))⟩
          case round =>
            clear HC0 Yh Gh hmI
            obtain ⟨kk, k2, dk, rfl, rfl, h1, hle, hkk, HI, HY, HG⟩ := hrel
            by_cases hlt2 : k + k2 < n
            · obtain ⟨t, ht⟩ : ∃ t, Hid (k2 = t + 1) := ⟨k2 - 1, Lib.hid (by omega)⟩
              have htI : IntKind.i64.wrap ((k2 : Int) - 1) = (t : Int) := by
                have := ht.out
                rw [IntWalk.i64_in _ (by omega)]; omega
              obtain ⟨m, hm⟩ : ∃ m, Hid (k + t = m) := ⟨_, Lib.hid rfl⟩
              have htn : t < n - k := by have := ht.out; omega
              have hmt : k + k2 = m + 1 := by have := ht.out; have := hm.out; omega
              have hkl : m + 1 < cs.length := by rw [hln.out, ← hmt]; exact hlt2
              have hml : m < cs.length := by omega
              have hxk := List.getElem?_eq_getElem hkl
              have hxm := List.getElem?_eq_getElem hml
              obtain ⟨x, hx⟩ : ∃ x, Hid (cs[m + 1]? = some x) := ⟨_, Lib.hid hxk⟩
              obtain ⟨y, hy⟩ : ∃ y, Hid (cs[m]? = some y) := ⟨_, Lib.hid hxm⟩
              have hI := HI.out
              rw [hmt] at hI
              have hkm := hI.lt
              have cx := (own_cell HY.out ((hI.high (m + 1) (by omega)).trans hx.out)).1
              have cy := (own_cell HY.out ((hI.high m (by omega)).trans hy.out)).1
              rw [← hmt] at cx
              rw [← hm.out] at cy
              obtain ⟨z, hz⟩ : ∃ z, dk[kk]? = some z := ⟨_, List.getElem?_eq_getElem (by rw [hI.len, hln.out]; exact hkk)⟩
              obtain ⟨ck, fk⟩ := own_cell HY.out hz
              have nx := HALL.out wr HG.out x (List.mem_of_getElem? hx.out)
              have ny := HALL.out wr HG.out y (List.mem_of_getElem? hy.out)
              have HQ := Lib.hid (fun q => seq_any x.zs y.zs x.ad y.ad x.cap y.cap (wr.drewN q) (nx.gro (Gro.dr wr q)).zs (ny.gro (Gro.dr wr q)).zs nx.len ny.len)
              have hkeep := kp_pos hx.out hy.out
              obtain ⟨e, he⟩ : ∃ e, Hid (decide (x.zs = y.zs) = e) := ⟨_, Lib.hid rfl⟩
              rw [he.out] at HQ hkeep
              cases e with
              | true =>
                have HI2 : Hid (CI cs (k + (k2 + 1)) kk dk) := Lib.hid (by rw [show k + (k2 + 1) = m + 1 + 1 by omega]; exact hI.skip hkeep)
                clear hxk hxm hkl hml hx hy nx ny he hkeep hI hmt hm ht HI hkm hz ck fk
                go_wp2_with fail
                go_quiet ((go_at_call 24; exact quiet_of_drew (HQ.out _)))
                go_wp2_with fail
                go_roundw
                case rel => exact ⟨kk, k2 + 1, dk, rfl, by go_num, by omega, by omega, hkk, HI2, Lib.hid (own_drew HY.out _), Lib.hid (grown_trans HG.out ((Gro.dr _ _).grown _))⟩
                case measure => simp [intOf]; omega
              | false =>
                have HI2 : Hid (CI cs (k + (k2 + 1)) (kk + 1) (dk.set kk x)) := Lib.hid (by rw [show k + (k2 + 1) = m + 1 + 1 by omega]; exact hI.keep hx.out hkeep)
                have HS := Lib.hid (fun q => show ((wr.drewN q).setCell ⟨g, kk, none⟩ (.slice x.ad x.zs.length x.cap)).ownsRow base 34 1 (.slice (some ⟨g, 0, none⟩) n cap) n (cvals (dk.set kk x)) from by
                  have := own_set (own_drew HY.out q) kk x.val
                  unfold cvals
                  rw [List.map_set]
                  exact this)
                have HG2 := Lib.hid (fun q => grown_trans (grown_trans HG.out ((Gro.dr wr q).grown (some g))) (grown_set (wr.drewN q) g kk (.slice x.ad x.zs.length x.cap)))
                have hkk1 : kk + 1 < n := by omega
                clear hxk hxm hkl hml hx hy nx ny he hkeep hI hmt hm ht HI hkm hz HY HG
                go_wp2_with fail
                go_quiet ((go_at_call 24; exact quiet_of_drew (HQ.out _)))
                go_wp2_with fail
                go_roundw
                case rel => exact ⟨kk + 1, k2 + 1, dk.set kk x, by go_num, by go_num, by omega, by omega, hkk1, HI2, Lib.hid (HS.out _), Lib.hid (HG2.out _)⟩
                case measure => simp [intOf]; omega
            · have hend : k + k2 = n := by omega
              have hI := HI.out
              rw [hend, ← hln.out] at hI
              have hdone := hI.done
              have hcl : ∀ ty, (Builtin.clear_ #[22] ty #[.slice (some ⟨g, kk, none⟩) (n - kk) (cap - kk)]).run Try.prog wr = .ok (.tuple #[]) (wr.setCells g kk (List.replicate (n - kk) (.slice none 0 0))) :=
                fun ty => Lib.run_clear_slice wr _ _ ty _ Try.underlying22 (fun _ => by kernel_rfl) rfl rfl g kk _ _ (by omega)
                  (fun j hj => by
                    obtain ⟨z, hz⟩ : ∃ z, dk[kk + j]? = some z := ⟨_, List.getElem?_eq_getElem (by rw [hI.len, hln.out]; omega)⟩
                    rw [(own_cell HY.out hz).1]; rfl)
                  (fun j hj => by
                    obtain ⟨z, hz⟩ : ∃ z, dk[kk + j]? = some z := ⟨_, List.getElem?_eq_getElem (by rw [hI.len, hln.out]; omega)⟩
                    exact (own_cell HY.out hz).2)
              have hr := (row_take HY.out kk).cells_out (k := kk) (by rw [cvals_length, List.length_take]; omega) (List.replicate (n - kk) (.slice none 0 0))
              have hG2 := grown_trans HG.out (setCells_grown g (List.replicate (n - kk) (.slice none 0 0)) kk wr)
              have HR := Lib.hid (And.intro hr (And.intro hG2 (And.intro hdone (fun d (hd : d ∈ dk.take kk) => hI.mem d (List.mem_of_mem_take hd)))))
              have HL : Hid ((dk.take kk).length = kk) := Lib.hid (by rw [List.length_take, hI.len, hln.out]; omega)
              clear hI hdone hr hG2 HI HY HG hend HALL hln
              go_wp2_with fail
              go_ret
              exact ⟨some ⟨g, 0, none⟩, cap, dk.take kk, by rw [HL.out]; rfl, HR.out.2.2.1, HR.out.1, HR.out.2.2.2, HR.out.2.1⟩
      · obtain rfl : k = n := by omega
        have hct : ct cs = Lib.compact (ct cs) := by
          unfold Lib.compact
          rw [List.length_map, hln.out, up_all (by rw [hln.out]; exact Nat.le_refl _) hkp.out, List.take_of_length_le (by rw [hln.out]; exact Nat.le_refl _)]
        have hr := RowS.of_own Y (by decide)
        have HE : Hid (Ending.returned (.slice (some ⟨g, 0, none⟩) k cap) = .returned (.slice (some ⟨g, 0, none⟩) cs.length cap)) := Lib.hid (by rw [hln.out])
        clear Y hkp HALL hln
        go_wp2_with fail
        go_ret
        exact ⟨some ⟨g, 0, none⟩, cap, cs, HE.out, hct, hr, fun _ h => h, G⟩
set_option maxRecDepth 100000 in
set_option maxHeartbeats 2000000 in
theorem compactM_any (base : Nat) (v : Value) (n : Nat) (cs : List Cl) (w : World) (hown : w.ownsRow base 34 1 v n (cvals cs)) (hall : ∀ c ∈ cs, CN w base v.ownBlock c) (hn : n ≤ 1000000) :
    Calls Try.prog 36 #[v, .func (.func 37) #[] #[]] w (CcP base v cs w) := by
  have hl : cs.length = n := by have := own_len hown; rwa [cvals_length] at this
  by_cases hn2 : n < 2
  · have hall1 : ∀ j, j < n → Lib.keeps (ct cs).toArray j = true := fun j hj => kp_first cs j (by omega)
    have hct : ct cs = Lib.compact (ct cs) := by
      unfold Lib.compact
      rw [List.length_map, hl, up_all (by omega) hall1, List.take_of_length_le (by omega)]
    obtain ⟨A, c, rfl⟩ := own_slice_ hown
    have hr := RowS.of_own hown (by decide)
    have HE : Hid (Ending.returned (.slice A n c) = .returned (.slice A cs.length c)) := Lib.hid (by rw [hl])
    have q : decide ((n : Int) < 2) = true := by rw [decide_eq_true_eq]; omega
    clear hown hall hall1 hl hn
    go_enter Try.func36, Try.ntmps36
    go_wp2_with fail
    go_ret
    exact ⟨A, c, cs, HE.out, hct, hr, fun _ h => h, grown_refl _ _⟩
  · obtain ⟨g, cap, rfl, hb, hgl⟩ := hown.form (by omega)
    have hncap : n ≤ cap := by
      rcases hown.2 with ⟨h0, _⟩ | ⟨g', cap', cur, hv, _, _, h1, _⟩
      · cases h0
      · injection hv with _ _ hv3; subst hv3; exact h1
    have HALL := Lib.hid (fun W (hg : w.grownBy W (some g)) => show ∀ c ∈ cs, CN W base (some g) c from fun c hc => (hall c hc).grown hg)
    have X : w.ownsRow base 34 1 (.slice (some ⟨g, 0, none⟩) n cap) n (cvals cs) ∧ w.grownBy w (some g) := ⟨hown, grown_refl _ _⟩
    have hln := Lib.hid hl
    have q : decide ((n : Int) < 2) = false := by rw [decide_eq_false_iff_not]; omega
    have HK0 := Lib.hid (kp_first cs)
    clear hall hown hl
    go_enter Try.func36, Try.ntmps36
    go_wp2_with fail
    go_loopw [5, 6, 7] (fun kv v6 v7 wr => ∃ k : Nat, 1 ≤ k ∧ k ≤ n ∧ kv = .int .i64 k ∧ Hid (∀ j, j < k → Lib.keeps (ct cs).toArray j = true) ∧ wr.ownsRow base 34 1 (.slice (some ⟨g, 0, none⟩) n cap) n (cvals cs) ∧ w.grownBy wr (some g)) (fun kv _ _ _ => n - (intOf kv).toNat)
    case atStart => exact ⟨1, Nat.le_refl _, by omega, rfl, HK0, X.1, X.2⟩
    case round =>
      clear X HK0
      obtain ⟨k, hk1, hk, rfl, hkp, Y, G⟩ := hrel
      by_cases hlt : k < n
      · obtain ⟨m, hm⟩ : ∃ m, Hid (k = m + 1) := ⟨k - 1, Lib.hid (by omega)⟩
        have hmI : IntKind.i64.wrap ((k : Int) - 1) = (m : Int) := by
          have := hm.out
          rw [IntWalk.i64_in _ (by omega)]; omega
        have hmn : m < n := by have := hm.out; omega
        have hkl : k < cs.length := by rw [hln.out]; exact hlt
        have hml : m < cs.length := by rw [hln.out]; exact hmn
        have hxk := List.getElem?_eq_getElem hkl
        have hxm := List.getElem?_eq_getElem hml
        obtain ⟨x, hx⟩ : ∃ x, Hid (cs[k]? = some x) := ⟨_, Lib.hid hxk⟩
        obtain ⟨y, hy⟩ : ∃ y, Hid (cs[m]? = some y) := ⟨_, Lib.hid hxm⟩
        have cx := (own_cell Y hx.out).1
        have cy := (own_cell Y hy.out).1
        have nx := HALL.out wr G x (List.mem_of_getElem? hx.out)
        have ny := HALL.out wr G y (List.mem_of_getElem? hy.out)
        have HQ := Lib.hid (fun q => leq_any x.zs y.zs x.ad y.ad x.cap y.cap (wr.drewN q) (nx.gro (Gro.dr wr q)).zs (ny.gro (Gro.dr wr q)).zs nx.len ny.len)
        have hkeep := hm.out ▸ kp_pos (cs := cs) (m := m) (c := x) (d := y) (hm.out ▸ hx.out) hy.out
        have hkeep2 : Hid (Lib.keeps (ct cs).toArray k = !decide (x.zs = y.zs)) := Lib.hid (by have := kp_pos (cs := cs) (m := m) (c := x) (d := y) (hm.out ▸ hx.out) hy.out; rw [← hm.out] at this; exact this)
        obtain ⟨e, he⟩ : ∃ e, Hid (decide (x.zs = y.zs) = e) := ⟨_, Lib.hid rfl⟩
        rw [he.out] at HQ hkeep2
        have Yh := Lib.hid Y
        have Gh := Lib.hid G
        clear hxk hxm hkl hml hx hy nx ny he hkeep Y G hm
        cases e with
        | false =>
          go_wp2_with fail
          go_quiet ((go_at_call 37; exact quiet_of_drew (HQ.out _)))
          go_wp2_with fail
          go_roundw
          case rel => exact ⟨k + 1, by omega, by omega, by go_num, Lib.hid (fun j hj => by
            rcases Nat.lt_or_ge j k with h | h
            · exact hkp.out j h
            · obtain rfl : j = k := by omega
              exact hkeep2.out), own_drew Yh.out _, grown_trans Gh.out ((Gro.dr _ _).grown _)⟩
          case measure => simp [intOf]; omega
        | true =>
          have C0 : CI cs (k + 1) k cs := CI.start (by rw [hln.out]; exact hlt) hkp.out hkeep2.out
          have HC0 := Lib.hid C0
          clear C0 hkp hkeep2
          go_wp2_with fail
          go_quiet ((go_at_call 37; exact quiet_of_drew (HQ.out _)))
          clear cx cy HQ
          go_wp2_with fail
          go_loopw [5, 7] (fun kv k2v wr => ∃ (kk k2 : Nat) (dk : List Cl), kv = .int .i64 kk ∧ k2v = .int .i64 k2 ∧ 1 ≤ k2 ∧ k + k2 ≤ n ∧ kk < n ∧ Hid (CI cs (k + k2) kk dk) ∧ Hid (wr.ownsRow base 34 1 (.slice (some ⟨g, 0, none⟩) n cap) n (cvals dk)) ∧ Hid (w.grownBy wr (some g))) (fun _ k2v _ => n - (intOf k2v).toNat)
          case atStart => exact ⟨k, 1, cs, rfl, rfl, Nat.le_refl _, by omega, hlt, HC0, Lib.hid (own_drew Yh.out _), Lib.hid (grown_trans Gh.out ((Gro.dr _ _).grown _))⟩
          case round =>
            clear HC0 Yh Gh hmI
            obtain ⟨kk, k2, dk, rfl, rfl, h1, hle, hkk, HI, HY, HG⟩ := hrel
            by_cases hlt2 : k + k2 < n
            · obtain ⟨t, ht⟩ : ∃ t, Hid (k2 = t + 1) := ⟨k2 - 1, Lib.hid (by omega)⟩
              have htI : IntKind.i64.wrap ((k2 : Int) - 1) = (t : Int) := by
                have := ht.out
                rw [IntWalk.i64_in _ (by omega)]; omega
              obtain ⟨m, hm⟩ : ∃ m, Hid (k + t = m) := ⟨_, Lib.hid rfl⟩
              have htn : t < n - k := by have := ht.out; omega
              have hmt : k + k2 = m + 1 := by have := ht.out; have := hm.out; omega
              have hkl : m + 1 < cs.length := by rw [hln.out, ← hmt]; exact hlt2
              have hml : m < cs.length := by omega
              have hxk := List.getElem?_eq_getElem hkl
              have hxm := List.getElem?_eq_getElem hml
              obtain ⟨x, hx⟩ : ∃ x, Hid (cs[m + 1]? = some x) := ⟨_, Lib.hid hxk⟩
              obtain ⟨y, hy⟩ : ∃ y, Hid (cs[m]? = some y) := ⟨_, Lib.hid hxm⟩
              have hI := HI.out
              rw [hmt] at hI
              have hkm := hI.lt
              have cx := (own_cell HY.out ((hI.high (m + 1) (by omega)).trans hx.out)).1
              have cy := (own_cell HY.out ((hI.high m (by omega)).trans hy.out)).1
              rw [← hmt] at cx
              rw [← hm.out] at cy
              obtain ⟨z, hz⟩ : ∃ z, dk[kk]? = some z := ⟨_, List.getElem?_eq_getElem (by rw [hI.len, hln.out]; exact hkk)⟩
              obtain ⟨ck, fk⟩ := own_cell HY.out hz
              have nx := HALL.out wr HG.out x (List.mem_of_getElem? hx.out)
              have ny := HALL.out wr HG.out y (List.mem_of_getElem? hy.out)
              have HQ := Lib.hid (fun q => leq_any x.zs y.zs x.ad y.ad x.cap y.cap (wr.drewN q) (nx.gro (Gro.dr wr q)).zs (ny.gro (Gro.dr wr q)).zs nx.len ny.len)
              have hkeep := kp_pos hx.out hy.out
              obtain ⟨e, he⟩ : ∃ e, Hid (decide (x.zs = y.zs) = e) := ⟨_, Lib.hid rfl⟩
              rw [he.out] at HQ hkeep
              cases e with
              | true =>
                have HI2 : Hid (CI cs (k + (k2 + 1)) kk dk) := Lib.hid (by rw [show k + (k2 + 1) = m + 1 + 1 by omega]; exact hI.skip hkeep)
                clear hxk hxm hkl hml hx hy nx ny he hkeep hI hmt hm ht HI hkm hz ck fk
                go_wp2_with fail
                go_quiet ((go_at_call 37; exact quiet_of_drew (HQ.out _)))
                go_wp2_with fail
                go_roundw
                case rel => exact ⟨kk, k2 + 1, dk, rfl, by go_num, by omega, by omega, hkk, HI2, Lib.hid (own_drew HY.out _), Lib.hid (grown_trans HG.out ((Gro.dr _ _).grown _))⟩
                case measure => simp [intOf]; omega
              | false =>
                have HI2 : Hid (CI cs (k + (k2 + 1)) (kk + 1) (dk.set kk x)) := Lib.hid (by rw [show k + (k2 + 1) = m + 1 + 1 by omega]; exact hI.keep hx.out hkeep)
                have HS := Lib.hid (fun q => show ((wr.drewN q).setCell ⟨g, kk, none⟩ (.slice x.ad x.zs.length x.cap)).ownsRow base 34 1 (.slice (some ⟨g, 0, none⟩) n cap) n (cvals (dk.set kk x)) from by
                  have := own_set (own_drew HY.out q) kk x.val
                  unfold cvals
                  rw [List.map_set]
                  exact this)
                have HG2 := Lib.hid (fun q => grown_trans (grown_trans HG.out ((Gro.dr wr q).grown (some g))) (grown_set (wr.drewN q) g kk (.slice x.ad x.zs.length x.cap)))
                have hkk1 : kk + 1 < n := by omega
                clear hxk hxm hkl hml hx hy nx ny he hkeep hI hmt hm ht HI hkm hz HY HG
                go_wp2_with fail
                go_quiet ((go_at_call 37; exact quiet_of_drew (HQ.out _)))
                go_wp2_with fail
                go_roundw
                case rel => exact ⟨kk + 1, k2 + 1, dk.set kk x, by go_num, by go_num, by omega, by omega, hkk1, HI2, Lib.hid (HS.out _), Lib.hid (HG2.out _)⟩
                case measure => simp [intOf]; omega
            · have hend : k + k2 = n := by omega
              have hI := HI.out
              rw [hend, ← hln.out] at hI
              have hdone := hI.done
              have hcl : ∀ ty, (Builtin.clear_ #[22] ty #[.slice (some ⟨g, kk, none⟩) (n - kk) (cap - kk)]).run Try.prog wr = .ok (.tuple #[]) (wr.setCells g kk (List.replicate (n - kk) (.slice none 0 0))) :=
                fun ty => Lib.run_clear_slice wr _ _ ty _ Try.underlying22 (fun _ => by kernel_rfl) rfl rfl g kk _ _ (by omega)
                  (fun j hj => by
                    obtain ⟨z, hz⟩ : ∃ z, dk[kk + j]? = some z := ⟨_, List.getElem?_eq_getElem (by rw [hI.len, hln.out]; omega)⟩
                    rw [(own_cell HY.out hz).1]; rfl)
                  (fun j hj => by
                    obtain ⟨z, hz⟩ : ∃ z, dk[kk + j]? = some z := ⟨_, List.getElem?_eq_getElem (by rw [hI.len, hln.out]; omega)⟩
                    exact (own_cell HY.out hz).2)
              have hr := (row_take HY.out kk).cells_out (k := kk) (by rw [cvals_length, List.length_take]; omega) (List.replicate (n - kk) (.slice none 0 0))
              have hG2 := grown_trans HG.out (setCells_grown g (List.replicate (n - kk) (.slice none 0 0)) kk wr)
              have HR := Lib.hid (And.intro hr (And.intro hG2 (And.intro hdone (fun d (hd : d ∈ dk.take kk) => hI.mem d (List.mem_of_mem_take hd)))))
              have HL : Hid ((dk.take kk).length = kk) := Lib.hid (by rw [List.length_take, hI.len, hln.out]; omega)
              clear hI hdone hr hG2 HI HY HG hend HALL hln
              go_wp2_with fail
              go_ret
              exact ⟨some ⟨g, 0, none⟩, cap, dk.take kk, by rw [HL.out]; rfl, HR.out.2.2.1, HR.out.1, HR.out.2.2.2, HR.out.2.1⟩
      · obtain rfl : k = n := by omega
        have hct : ct cs = Lib.compact (ct cs) := by
          unfold Lib.compact
          rw [List.length_map, hln.out, up_all (by rw [hln.out]; exact Nat.le_refl _) hkp.out, List.take_of_length_le (by rw [hln.out]; exact Nat.le_refl _)]
        have hr := RowS.of_own Y (by decide)
        have HE : Hid (Ending.returned (.slice (some ⟨g, 0, none⟩) k cap) = .returned (.slice (some ⟨g, 0, none⟩) cs.length cap)) := Lib.hid (by rw [hln.out])
        clear Y hkp HALL hln
        go_wp2_with fail
        go_ret
        exact ⟨some ⟨g, 0, none⟩, cap, cs, HE.out, hct, hr, fun _ h => h, G⟩
end Go.Proofs.Ytdbboeknknlolaa
