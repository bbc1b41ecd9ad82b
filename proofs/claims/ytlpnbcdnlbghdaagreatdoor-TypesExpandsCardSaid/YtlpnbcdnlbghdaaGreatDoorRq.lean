/- Walks: replace of the reference of types. -/
import Derived.Test.YtlpnbcdnlbghdaaGreatDoorDw
import Derived.Test.YtlpnbcdnlbghdaaGreatDoorEx
import Derived.Test.YtlpnbcdnlbghdaaGreatDoorPe
namespace Go.Proofs.YtlpnbcdnlbghdaaGreatDoor
open Go.RowKit Go.Sort
set_option linter.unusedVariables false

/-- the scope that a list of declarations stands for -/
def sco (ks : List Dc) : G.Sco := ks.map fun d => (d.nm, d.t)
theorem look_at {ks : List Dc} {i : Nat} {d : Dc} {n : ByteArray} (h : ∀ k, k < i → ∀ d, Dc.Is ks k d → d.nm ≠ n) (hd : Dc.Is ks i d) (hn : d.nm = n) : G.look (sco ks) n = some d.t := by
  induction ks generalizing i with
  | nil => obtain ⟨h0, _⟩ := hd.eq; simp at h0
  | cons a l ih =>
    have e : sco (a :: l) = (a.nm, a.t) :: sco l := rfl
    rw [e, G.look_cons]
    cases i with
    | zero =>
      obtain ⟨_, h1⟩ := hd.eq
      simp at h1
      subst h1
      rw [if_pos hn]
    | succ i =>
      rw [if_neg (h 0 (by omega) a ⟨by simp, rfl⟩)]
      exact ih (i := i) (fun k hk d hd' => h (k + 1) (by omega) d (by
        obtain ⟨h1, h2⟩ := hd'.eq
        exact ⟨by simpa using h1, by simpa using h2⟩)) (by
        obtain ⟨h1, h2⟩ := hd.eq
        exact ⟨by simpa using h1, by simpa using h2⟩)
theorem look_no {ks : List Dc} {n : ByteArray} (h : ∀ k, k < ks.length → ∀ d, Dc.Is ks k d → d.nm ≠ n) : G.look (sco ks) n = none := by
  induction ks with
  | nil => rfl
  | cons a l ih =>
    have e : sco (a :: l) = (a.nm, a.t) :: sco l := rfl
    rw [e, G.look_cons, if_neg (h 0 (by simp) a ⟨by simp, rfl⟩)]
    exact ih fun k hk d hd' => h (k + 1) (by simpa using hk) d (by
      obtain ⟨h1, h2⟩ := hd'.eq
      exact ⟨by simpa using h1, by simpa using h2⟩)
/-- blocks of the arguments, and new ones -/
abbrev SN (S : Nat → Prop) (w : World) : Nat → Prop := fun b => S b ∨ w.heap.size ≤ b
/-- the seven stores of a type in a box -/
abbrev put7 (w : World) (b : Nat) (x : G) : World := ((((((w.setCell ⟨b, 0, none⟩ (.int .i64 x.kd)).setCell ⟨b, 1, none⟩ (.int .i64 x.lo)).setCell ⟨b, 2, none⟩ (.int .i64 x.hi)).setCell ⟨b, 3, none⟩ (.int .i64 x.sz)).setCell ⟨b, 4, none⟩ (.string x.nm)).setCell ⟨b, 5, none⟩ (.slice x.na x.ns.length x.nc)).setCell ⟨b, 6, none⟩ (.slice x.ad x.ks.length x.cap)
theorem put7_grown (w : World) (b : Nat) (x : G) : w.grownBy (put7 w b x) (some b) := seven_grown w b _ _ _ _ _ _ _
theorem put7_in {w3 : World} {b : Nat} {x : G} {S S' : Nat → Prop} (hx : G.InS w3 S x) (hS : ∀ q, S q → q < w3.heap.size → q ≠ b ∧ S' q) : G.InS (put7 w3 b x) S' x :=
  hx.keep (fun p hp hlt => World.cell?_of_block (w := w3) ((put7_grown w3 b x).block _ hlt (fun e => (hS _ hp hlt).1 (by simpa using e)))) (fun q hq hlt => (hS q hq hlt).2) (put7_grown w3 b x).size
/-- what replace leaves -/
def RqP (S : Nat → Prop) (b : Bool) (y : G) (w : World) (r : Ending) (w' : World) : Prop :=
  ∃ x : G, r = .returned (.tuple #[x.val, .bool b]) ∧ G.InS w' (SN S w) x ∧ x.bare = y ∧ Below w.heap.size w w'
/-- what replace makes of a type -/
def rqY (σ : G.Sco) (t : G) : G := if t.any (G.unk σ) then G.zero else G.repl σ t
/-- the contract of replace -/
def RqE (ks : List Dc) (t : G) : Prop := ∀ (S : Nat → Prop) (A : Option Addr) (c : Nat) (w : World), (∀ b, S b → b < w.heap.size) → Dc.L w w.heap.size A ks → (∀ d ∈ ks, G.InS w S d.t) → G.InS w S t → t.any G.mal = false → t.nodes ≤ 1000000 →
  Calls Tryz.prog 81 #[.slice A ks.length c, t.val] w (RqP S (!t.any (G.unk (sco ks))) (rqY (sco ks) t) w)
theorem AnZ.drewN {w wr : World} {e : G} (h : AnZ w wr e) (n : Nat) : AnZ w (wr.drewN n) e := h.below ⟨rfl, rfl, rfl, Nat.le_refl _, fun _ _ => rfl⟩
set_option maxRecDepth 100000 in
set_option maxHeartbeats 4000000 in
theorem rreplace_name (ks : List Dc) (e : G) (h4 : e.kd = 4) : RqE ks e := by
  intro S A c w hB hl hts hin hm _
  have hlen := hl.len
  have HTs := Lib.hid hts
  have hk0 : e.ks.length = 0 := ((G.mal_iff e).1 (G.any_self hm)).ks (by omega) (by omega)
  have HU : Hid (e.any (G.unk (sco ks)) = (G.look (sco ks) e.nm).isNone) := Lib.hid (by
    rw [G.any_eq]
    have : e.ks = [] := List.eq_nil_of_length_eq_zero hk0
    rw [this]
    unfold G.unk
    rw [h4]; simp [G.anyL])
  have HRp : Hid (G.repl (sco ks) e = ((G.look (sco ks) e.nm).getD G.zero).bare) := Lib.hid (by rw [G.repl_eq, if_pos h4])
  have X := AnZ.start w e 26 26
  have H4 := Lib.hid h4
  clear hin hm hk0 h4 hts
  have HB0 : Hid (∀ x, G.look (sco ks) e.nm = some x → (!e.any (G.unk (sco ks))) = true ∧ rqY (sco ks) e = x.bare) := Lib.hid (fun x hx => by
    have hu : e.any (G.unk (sco ks)) = false := by rw [HU.out, hx]; rfl
    unfold rqY
    rw [hu, HRp.out, hx]; exact ⟨rfl, rfl⟩)
  have HB1 : Hid (G.look (sco ks) e.nm = none → (!e.any (G.unk (sco ks))) = false ∧ rqY (sco ks) e = G.zero) := Lib.hid (fun hx => by
    have hu : e.any (G.unk (sco ks)) = true := by rw [HU.out, hx]; rfl
    unfold rqY
    rw [hu]; exact ⟨rfl, rfl⟩)
  obtain ⟨u, hu⟩ : ∃ u, Hid ((!e.any (G.unk (sco ks))) = u) := ⟨_, Lib.hid rfl⟩
  obtain ⟨y, hy⟩ : ∃ y, Hid (rqY (sco ks) e = y) := ⟨_, Lib.hid rfl⟩
  rw [hu.out, hy.out] at HB0 HB1
  rw [hu.out, hy.out]
  unfold RqP
  clear hu hy HU HRp
  go_enter Tryz.func81, Tryz.ntmps81
  go_upto_region 1 with (fail)
  revert X
  generalize (w.alloc (.cells #[.int .i64 e.kd, .int .i64 e.lo, .int .i64 e.hi, .int .i64 e.sz, .string e.nm, .slice e.na e.ns.length e.nc, .slice e.ad e.ks.length e.cap] 26)).alloc (.cells zbox 26) = w1
  intro X
  obtain ⟨k0, k1, k2, k3, k4, k5, k6⟩ := box_cells X.be
  rw [H4.out] at k0
  go_wp2_with fail
  clear k0 k1 k2 k3 k4 k5 k6
  go_loopw [6] (fun iv wr => ∃ i : Nat, i ≤ ks.length ∧ iv = .int .i64 i ∧ Hid (∀ k, k < i → ∀ d, Dc.Is ks k d → d.nm ≠ e.nm) ∧ AnZ w wr e) (fun iv _ => ks.length - (intOf iv).toNat)
  case atStart => exact ⟨0, Nat.zero_le _, rfl, Lib.hid (fun k hk => absurd hk (Nat.not_lt_zero _)), X⟩
  case round =>
    clear X
    obtain ⟨i, hi, rfl, hg, Y⟩ := hrel
    have k4 := (box_cells Y.be).2.2.2.2.1
    by_cases hlt : i < ks.length
    · obtain ⟨ab, off, d, rfl, hab, ⟨d0, d1, d2, d3, d4, d5, d6, d7, d8, d9, d10, d11, d12, d13, d14, d15, d16⟩, his, hkin⟩ := (hl.below Y.bel).at_ hlt
      by_cases hq : d.nm = e.nm
      · have q1 : (d.nm.toList == e.nm.toList) = true := by rw [str_eq]; exact decide_eq_true hq
        have HL := Lib.hid (look_at hg.out his hq)
        obtain ⟨hu1, hy1⟩ := HB0.out _ HL.out
        have hu2 : Hid (u = true) := Lib.hid hu1
        have hy2 : Hid (y = d.t.bare) := Lib.hid hy1
        have hdt := (HTs.out d (by obtain ⟨hx, rfl⟩ := his.eq; exact List.getElem_mem hx)).below Y.bel
        clear hq hg his HL HB0 HB1 hu1 hy1 d0 d9 d10 d11 d12 d13 d14 d15 d16 hkin
        go_wp2_with fail
        go_quiet (fail)
        have Y2 := Y.drewN nq
        obtain ⟨z0, z1, z2, z3, z4, z5, z6⟩ := box_zero Y2.br
        have f0 := Y2.br.fr 0
        have f1 := Y2.br.fr 1
        have f2 := Y2.br.fr 2
        have f3 := Y2.br.fr 3
        have f4 := Y2.br.fr 4
        have f5 := Y2.br.fr 5
        have f6 := Y2.br.fr 6
        have hsz := Y2.bel.size
        have HI := Lib.hid (put7_in (w3 := wr.drewN nq) (b := w.heap.size + 1) (x := d.t) (S' := SN S w) (hdt.below ⟨rfl, rfl, rfl, Nat.le_refl _, fun _ _ => rfl⟩) (fun q hq _ => ⟨by have := hB q hq; omega, .inl hq⟩))
        have HBl := Lib.hid (Y2.bel.grown (put7_grown (wr.drewN nq) (w.heap.size + 1) d.t) hsz (fun k e => by cases e; omega))
        have HP := Lib.hid (box_cells (e := d.t) (seven_put Y2.br (.int .i64 d.t.kd) (.int .i64 d.t.lo) (.int .i64 d.t.hi) (.int .i64 d.t.sz) (.string d.t.nm) (.slice d.t.na d.t.ns.length d.t.nc) (.slice d.t.ad d.t.ks.length d.t.cap)))
        clear hdt
        go_wp2_with fail
        obtain ⟨r0, r1, r2, r3, r4, r5, r6⟩ := HP.out
        refine bodyPost_ret (v := .tuple #[d.t.val, .bool true]) (by simp [results, Tryz.results81, go_sem, r0, r1, r2, r3, r4, r5, r6]) rfl ⟨d.t, by rw [hu2.out], HI.out, hy2.out.symm, HBl.out⟩
      · have q1 : (d.nm.toList == e.nm.toList) = false := by rw [str_eq]; exact decide_eq_false hq
        have HG := Lib.hid (fun k (hk : k < i + 1) d' (hd' : Dc.Is ks k d') => show d'.nm ≠ e.nm by
          by_cases hki : k = i
          · subst hki
            obtain ⟨_, h1⟩ := hd'.eq
            obtain ⟨_, h2⟩ := his.eq
            rw [← h1, h2]; exact hq
          · exact hg.out k (by omega) d' hd')
        clear hq hg his d0 d2 d3 d4 d5 d6 d7 d8 d9 d10 d11 d12 d13 d14 d15 d16 hkin
        go_wp2_with fail
        go_quiet (fail)
        go_wp2_with fail
        go_roundw
        case rel => exact ⟨i + 1, by omega, by go_num, HG, Y.drewN _⟩
        case measure => simp [intOf]; omega
    · obtain rfl : i = ks.length := by omega
      have HL := Lib.hid (look_no hg.out)
      obtain ⟨hu1, hy1⟩ := HB1.out HL.out
      have hu2 : Hid (u = false) := Lib.hid hu1
      have hy2 : Hid (y = G.zero) := Lib.hid hy1
      obtain ⟨z0, z1, z2, z3, z4, z5, z6⟩ := box_zero Y.br
      have f0 := Y.br.fr 0
      have f1 := Y.br.fr 1
      have f2 := Y.br.fr 2
      have f3 := Y.br.fr 3
      have f4 := Y.br.fr 4
      have f5 := Y.br.fr 5
      have f6 := Y.br.fr 6
      have hsz := Y.bel.size
      have HI := Lib.hid (put7_in (w3 := wr) (b := w.heap.size + 1) (x := G.zero) (S := fun _ => False) (S' := SN S w) (zero_in _ _) (fun q hq _ => hq.elim))
      have HBl := Lib.hid (Y.bel.grown (put7_grown wr (w.heap.size + 1) G.zero) hsz (fun k e => by cases e; omega))
      have HP := Lib.hid (box_cells (e := G.zero) (seven_put Y.br (.int .i64 0) (.int .i64 0) (.int .i64 0) (.int .i64 0) (.string ⟨#[]⟩) (.slice none 0 0) (.slice none 0 0)))
      clear hg HL HB0 HB1 hu1 hy1
      go_wp2_with fail
      obtain ⟨r0, r1, r2, r3, r4, r5, r6⟩ := HP.out
      refine bodyPost_ret (v := .tuple #[G.zero.val, .bool false]) (by simp [results, Tryz.results81, go_sem, r0, r1, r2, r3, r4, r5, r6]) rfl ⟨G.zero, by rw [hu2.out], HI.out, by rw [hy2.out]; exact zero_bare, HBl.out⟩
/-- blocks of kids: of the arguments or new ones, not the own row -/
abbrev SR (S : Nat → Prop) (C : Nat) (v : Value) : Nat → Prop := fun b => (S b ∨ C ≤ b) ∧ some b ≠ v.ownBlock
/-- the world in the loop of replace -/
structure RqW (w wr : World) (S : Nat → Prop) (e : G) (v : Value) (xs : List G) : Prop where
  be : Blk wr w.heap.size e.box
  br : Blk wr (w.heap.size + 1) zbox
  own : wr.ownsRow (w.heap.size + 2) 26 7 v xs.length (G.flat xs)
  all : ∀ x ∈ xs, G.InS wr (SR S (w.heap.size + 2) v) x
  bel : Below w.heap.size w wr
theorem RqW.step {w wr w3 w8 : World} {S : Nat → Prop} {e x : G} {g cap n : Nat} {v : Value} {xs : List G} {T : Nat} (h : RqW w wr S e v xs) (hn : xs.length = n) (hB : ∀ b, S b → b < w.heap.size)
    (hb : Below wr.heap.size wr w3) (hx : G.InS w3 (SN S wr) x)
    (ho : w8.ownsRow (w.heap.size + 2) 26 7 (.slice (some ⟨g, 0, none⟩) (n + 1) cap) (n + 1) (G.flat xs ++ G.cells x))
    (hg : (w3.alloc (.cells x.box T)).grownBy w8 v.ownBlock) (hat : v.ownBlock = some g ∨ g = w3.heap.size + 1) :
    RqW w w8 S e (.slice (some ⟨g, 0, none⟩) (n + 1) cap) (xs ++ [x]) := by
  have hs1 := hb.size
  have hs0 := h.bel.size
  have hlt0 := h.br.lt
  have hge : ∀ k, v.ownBlock = some k → w.heap.size + 2 ≤ k ∧ k < wr.heap.size := fun k hk => own_ge h.own hk
  have hs8 := hg.size
  rw [World.size_alloc] at hs8
  have hkc : ∀ p : Addr, p.block < w3.heap.size → some p.block ≠ v.ownBlock → w8.cell? p = w3.cell? p := fun p hp hne => by
    rw [World.cell?_of_block (w := w3.alloc (.cells x.box T)) (hg.block _ (by rw [World.size_alloc]; omega) hne)]
    exact World.cell?_alloc_lt _ _ _ hp
  have hS : ∀ b, SR S (w.heap.size + 2) v b → b < wr.heap.size → SR S (w.heap.size + 2) (.slice (some ⟨g, 0, none⟩) (n + 1) cap) b := fun b hb2 hlt => ⟨hb2.1, fun e => by
    have e' : b = g := by simpa [Value.ownBlock] using e
    rcases hat with h1 | h1
    · exact hb2.2 (by rw [h1, e'])
    · omega⟩
  have hold : ∀ p : Addr, SR S (w.heap.size + 2) v p.block → p.block < wr.heap.size → w8.cell? p = wr.cell? p := fun p hp hlt =>
    (hkc p (by omega) hp.2).trans (hb.cell hlt)
  refine ⟨?_, ?_, ?_, ?_, ?_⟩
  · have b1 := (h.be.below hb h.be.lt).alloc (.cells x.box T)
    exact b1.grown hg (fun e => by have := (hge _ e.symm).1; omega)
  · have b1 := (h.br.below hb h.br.lt).alloc (.cells x.box T)
    exact b1.grown hg (fun e => by have := (hge _ e.symm).1; omega)
  · rw [G.flat_snoc, List.length_append]
    subst hn
    exact ho
  · intro y hy
    rcases List.mem_append.1 hy with hy | hy
    · exact (h.all y hy).keep hold hS (by omega)
    · simp at hy
      subst hy
      refine hx.keep (fun p hp hlt => hkc p hlt (fun e => ?_)) (fun b hb2 hlt => ⟨?_, fun e => ?_⟩) (by omega)
      · have := hge _ e.symm
        have h1 : S p.block ∨ wr.heap.size ≤ p.block := hp
        rcases h1 with h1 | h1
        · have := hB _ h1; omega
        · omega
      · have h1 : S b ∨ wr.heap.size ≤ b := hb2
        exact h1.imp_right fun h1 => by omega
      · have h1 : S b ∨ wr.heap.size ≤ b := hb2
        have e' : b = g := by simpa [Value.ownBlock] using e
        have h3 : b < w.heap.size ∨ wr.heap.size ≤ b := h1.imp_left (hB b)
        rcases hat with h2 | h2
        · have := hge _ h2; omega
        · omega
  · exact (((h.bel.trans (hb.mono hs0)).alloc (by omega) (.cells x.box T))).grown hg (by rw [World.size_alloc]; omega) (fun k e => by have := (hge _ e).1; omega)
/-- what is handed back at the end of the loop -/
theorem RqW.done {w wr : World} {S : Nat → Prop} {e : G} {A' : Option Addr} {c' n : Nat} {xs : List G} (h : RqW w wr S e (.slice A' n c') xs) (hn : xs.length = n) (hB : ∀ b, S b → b < w.heap.size) (hin : G.NdS w S e) (hl : n ≤ 1000000) :
    G.InS (put7 (wr.setCell ⟨w.heap.size, 6, none⟩ (.slice A' n c')) (w.heap.size + 1) (.mk e.kd e.lo e.hi e.sz e.nm e.na e.nc e.ns A' c' xs)) (SN S w) (.mk e.kd e.lo e.hi e.sz e.nm e.na e.nc e.ns A' c' xs) ∧
    Below w.heap.size w (put7 (wr.setCell ⟨w.heap.size, 6, none⟩ (.slice A' n c')) (w.heap.size + 1) (.mk e.kd e.lo e.hi e.sz e.nm e.na e.nc e.ns A' c' xs)) := by
  have hs := h.bel.size
  have hlt := h.br.lt
  have g1 : wr.grownBy (wr.setCell ⟨w.heap.size, 6, none⟩ (.slice A' n c')) (some w.heap.size) := grown_set _ _ _ _
  have g2 := put7_grown (wr.setCell ⟨w.heap.size, 6, none⟩ (.slice A' n c')) (w.heap.size + 1) (.mk e.kd e.lo e.hi e.sz e.nm e.na e.nc e.ns A' c' xs)
  have hsz : (wr.setCell ⟨w.heap.size, 6, none⟩ (.slice A' n c')).heap.size = wr.heap.size := by simp [World.setCell]
  revert g2
  generalize put7 (wr.setCell ⟨w.heap.size, 6, none⟩ (.slice A' n c')) (w.heap.size + 1) (.mk e.kd e.lo e.hi e.sz e.nm e.na e.nc e.ns A' c' xs) = w7
  intro g2
  have hz7 : wr.heap.size ≤ w7.heap.size := by rw [← hsz]; exact g2.size
  have hk : ∀ p : Addr, p.block ≠ w.heap.size → p.block ≠ w.heap.size + 1 → p.block < wr.heap.size → w7.cell? p = wr.cell? p := fun p h1 h2 hlt =>
    (World.cell?_of_block (w := wr.setCell ⟨w.heap.size, 6, none⟩ (.slice A' n c')) (g2.block _ (by omega) (fun e => h2 (by simpa using e)))).trans (World.cell?_of_block (w := wr) (g1.block _ hlt (fun e => h1 (by simpa using e))))
  have bw : Below w.heap.size w w7 := (h.bel.grown g1 hs (fun k e => by cases e; omega)).grown g2 (by rw [hsz]; exact hs) (fun k e => by cases e; omega)
  refine ⟨?_, bw⟩
  rw [G.inS_eq, G.inSL_iff]
  have hrow : RowS w7 (SN S w) e.na (svals e.ns) := ⟨fun hp => by
    obtain ⟨b, off, h1, h2, h2', h3⟩ := hin.nrow.cells hp
    exact ⟨b, off, h1, .inl h2, by omega, fun k u hu => (bw.cell (by show b < w.heap.size; omega)).trans (h3 k u hu)⟩⟩
  refine ⟨⟨hin.kd, hin.lo, hin.hi, hin.sz, hin.nm, hin.nlen, hin.names, hrow, by show xs.length ≤ _; omega, ?_⟩, fun x hx => (h.all x hx).keep (fun p hp hlt => by
    have h1 : p.block < w.heap.size ∨ w.heap.size + 2 ≤ p.block := hp.1.imp_left (hB _)
    exact hk p (by omega) (by omega) hlt) (fun b hb _ => hb.1.imp_right fun h1 => by omega) hz7⟩
  subst hn
  have hr := RowS.of_own h.own (by decide)
  exact ⟨fun hp => by
    obtain ⟨b, off, h1, h2, h3, h4⟩ := hr.cells hp
    exact ⟨b, off, h1, .inr (by omega), by omega, fun k u hu => (hk ⟨b, off + k, none⟩ (by show b ≠ _; omega) (by show b ≠ _; omega) h3).trans (h4 k u hu)⟩⟩
theorem rq_bad {σ : G.Sco} {e k : G} {i : Nat} (his : G.Is e.ks i k) (hk : k.any (G.unk σ) = true) : (!e.any (G.unk σ)) = false ∧ rqY σ e = G.zero := by
  have h := G.any_hit his hk
  unfold rqY
  rw [h]; exact ⟨rfl, rfl⟩
theorem rq_good {σ : G.Sco} {e : G} {xs : List G} (h4 : e.kd ≠ 4) (hk : ∀ k, k < e.ks.length → ∀ e', G.Is e.ks k e' → e'.any (G.unk σ) = false) (hx : xs.map G.bare = e.ks.map (G.repl σ)) (A : Option Addr) (c : Nat) :
    (!e.any (G.unk σ)) = true ∧ (G.mk e.kd e.lo e.hi e.sz e.nm e.na e.nc e.ns A c xs).bare = rqY σ e := by
  have h : e.any (G.unk σ) = false := G.any_none (by unfold G.unk; have : (e.kd == 4) = false := by simpa using h4
                                                     rw [this]; rfl) hk
  unfold rqY
  rw [h]
  refine ⟨rfl, ?_⟩
  rw [if_neg (by simp), G.repl_eq, if_neg h4, G.bare_eq]
  show G.mk _ _ _ _ _ _ _ _ _ _ (xs.map G.bare) = _
  rw [hx]; rfl
theorem box7 {w : World} {b : Nat} {a0 a1 a2 a3 a4 a5 a6 : Value} (h : Blk w b #[a0, a1, a2, a3, a4, a5, a6]) : w.cell? ⟨b, 0, none⟩ = some a0 ∧ w.cell? ⟨b, 1, none⟩ = some a1 ∧ w.cell? ⟨b, 2, none⟩ = some a2 ∧ w.cell? ⟨b, 3, none⟩ = some a3 ∧ w.cell? ⟨b, 4, none⟩ = some a4 ∧ w.cell? ⟨b, 5, none⟩ = some a5 ∧ w.cell? ⟨b, 6, none⟩ = some a6 :=
  ⟨h.c 0 rfl, h.c 1 rfl, h.c 2 rfl, h.c 3 rfl, h.c 4 rfl, h.c 5 rfl, h.c 6 rfl⟩
set_option maxRecDepth 100000 in
set_option maxHeartbeats 4000000 in
theorem rreplace_node (ks : List Dc) (e : G) (h4 : e.kd ≠ 4) (ih : ∀ k ∈ e.ks, RqE ks k) : RqE ks e := by
  intro S A c w hB hl hts hinS hm hnod
  have hin := G.InS.in_ _ hinS
  have hndS := ((G.inS_eq e).1 hinS).1
  have hkS := G.inSL_iff.1 ((G.inS_eq e).1 hinS).2
  obtain ⟨i0, hi0, hz0, hz1, hz2⟩ := info_parts infoType
  have hlk := hin.l
  have hnd := hin.nd
  have hkl : e.ks.length ≤ 1000000 := by have := ks_len e.ks; rw [G.nodes_eq] at hnod; omega
  obtain ⟨A0, hA⟩ : ∃ A, Hid (e.ad = A) := ⟨_, Lib.hid rfl⟩
  rw [hA.out] at hlk
  obtain ⟨n, hn⟩ : ∃ n, Hid (e.ks.length = n) := ⟨_, Lib.hid rfl⟩
  rw [hn.out] at hkl
  have q4 : (e.kd == 4) = false := by simpa using h4
  have H4 := Lib.hid h4
  have HBad := Lib.hid (fun i k (his : G.Is e.ks i k) (hk : k.any (G.unk (sco ks)) = true) => rq_bad (σ := sco ks) his hk)
  have HGood := Lib.hid (fun (xs : List G) (hk : ∀ k, k < e.ks.length → ∀ e', G.Is e.ks k e' → e'.any (G.unk (sco ks)) = false) (hx : xs.map G.bare = e.ks.map (G.repl (sco ks))) A c => rq_good H4.out hk hx A c)
  have IH := Lib.hid (fun i k (his : G.Is e.ks i k) (W : World) (hb : Below w.heap.size w W) => ih k his.mem S A c W (fun b h => Nat.lt_of_lt_of_le (hB b h) hb.size) (hl.at hb) (fun d hd => (hts d hd).below hb) ((hkS k his.mem).below hb) (G.any_kid hm his.mem) (Nat.le_trans (nodes_kid his) hnod))
  obtain ⟨u, hu⟩ : ∃ u, Hid ((!e.any (G.unk (sco ks))) = u) := ⟨_, Lib.hid rfl⟩
  obtain ⟨y, hy⟩ : ∃ y, Hid (rqY (sco ks) e = y) := ⟨_, Lib.hid rfl⟩
  rw [hu.out, hy.out] at HBad HGood
  rw [hu.out, hy.out]
  unfold RqP at IH ⊢
  have X0 := AnZ.start w e 26 26
  have X : RqW w ((w.alloc (.cells e.box 26)).alloc (.cells zbox 26)) S e (.slice none 0 0) [] := ⟨X0.be, X0.br, World.ownsRow_nil _ _ _ _, fun x hx => absurd hx (by simp), X0.bel⟩
  clear hu hy h4 hm hnod ih hl hin X0 hts hinS hkS hnd
  go_enter Tryz.func81, Tryz.ntmps81
  go_upto_region 1 with (fail)
  revert X
  generalize (w.alloc (.cells #[.int .i64 e.kd, .int .i64 e.lo, .int .i64 e.hi, .int .i64 e.sz, .string e.nm, .slice e.na e.ns.length e.nc, .slice e.ad e.ks.length e.cap] 26)).alloc (.cells zbox 26) = w1
  intro X
  obtain ⟨k0, k1, k2, k3, k4, k5, k6⟩ := box_cells X.be
  go_wp2_with fail
  clear k0 k1 k2 k3 k4 k5 k6
  go_loopw [7, 8, 9, 10] (fun lv iv kv ov wr => ∃ (i : Nat) (xs : List G), i ≤ n ∧ iv = .int .i64 i ∧ xs.length = i ∧ Hid (xs.map G.bare = (e.ks.take i).map (G.repl (sco ks))) ∧ Hid (∀ k, k < i → ∀ e', G.Is e.ks k e' → e'.any (G.unk (sco ks)) = false) ∧ RqW w wr S e lv xs) (fun _ iv _ _ _ => n - (intOf iv).toNat)
  case atStart => exact ⟨0, [], Nat.zero_le _, rfl, rfl, Lib.hid (by simp), Lib.hid (fun k hk => absurd hk (Nat.not_lt_zero _)), X⟩
  case round =>
    clear X
    obtain ⟨i, xs, hi, rfl, hxl, hxs, hgood, Y⟩ := hrel
    have k6 := (box_cells Y.be).2.2.2.2.2.2
    rw [hA.out, hn.out] at k6
    have ho := Y.own
    rw [hxl] at ho
    obtain ⟨A', c', rfl⟩ := own_slice_ ho
    by_cases hlt : i < n
    · obtain ⟨ab, off, k, rfl, hab, ⟨d0, d1, d2, d3, d4, d5, d6⟩, his, hkin⟩ := (hlk.below Y.bel).at_ (show i < e.ks.length by rw [hn.out]; exact hlt)
      have HI := Lib.hid (IH.out i k his wr Y.bel)
      have hsz := Y.be.lt
      have hszr := Y.br.lt
      cases hku : k.any (G.unk (sco ks)) with
      | true =>
        obtain ⟨hu1, hy1⟩ := HBad.out i k his hku
        have hu2 : Hid (u = false) := Lib.hid hu1
        have hy2 : Hid (y = G.zero) := Lib.hid hy1
        rw [hku] at HI
        clear HBad HGood IH hu1 hy1 hku hgood hxs his hkin
        go_wp2_with fail
        refine HI.out.mono ?_
        rintro r w3 ⟨x, rfl, hx, hxb, b3⟩
        have b4 := bTrans b3 (al1 w3 (.cells x.box 26))
        have Z := Y.br.below b4 Y.br.lt
        have bel4 := bTrans Y.bel b4
        clear hx hxb HI d0 d1 d2 d3 d4 d5 d6 k6 ho
        go_upto_region 13 with (fail)
        revert Z bel4 b4
        generalize w3.alloc (.cells #[.int .i64 x.kd, .int .i64 x.lo, .int .i64 x.hi, .int .i64 x.sz, .string x.nm, .slice x.na x.ns.length x.nc, .slice x.ad x.ks.length x.cap] 26) = w4
        intro b4 Z bel4
        obtain ⟨z0, z1, z2, z3, z4, z5, z6⟩ := box_zero Z
        have f0 := Z.fr 0
        have f1 := Z.fr 1
        have f2 := Z.fr 2
        have f3 := Z.fr 3
        have f4 := Z.fr 4
        have f5 := Z.fr 5
        have f6 := Z.fr 6
        have HI2 := Lib.hid (put7_in (w3 := w4) (b := w.heap.size + 1) (x := G.zero) (S := fun _ => False) (S' := SN S w) (zero_in _ _) (fun q hq _ => hq.elim))
        have HBl := Lib.hid (bel4.grown (put7_grown w4 (w.heap.size + 1) G.zero) bel4.size (fun k e => by cases e; omega))
        have HP := Lib.hid (box_cells (e := G.zero) (seven_put Z (.int .i64 0) (.int .i64 0) (.int .i64 0) (.int .i64 0) (.string ⟨#[]⟩) (.slice none 0 0) (.slice none 0 0)))
        clear bel4 b4 Z b3
        go_wp2_with fail
        obtain ⟨r0, r1, r2, r3, r4, r5, r6⟩ := HP.out
        refine bodyPost_ret (v := .tuple #[G.zero.val, .bool false]) (by simp [results, Tryz.results81, go_sem, r0, r1, r2, r3, r4, r5, r6]) rfl ⟨G.zero, by rw [hu2.out], HI2.out, by rw [hy2.out]; exact zero_bare, HBl.out⟩
      | false =>
        have hrq : rqY (sco ks) k = G.repl (sco ks) k := by unfold rqY; rw [hku]; rfl
        have HX2 := Lib.hid (fun (x : G) (hx : x.bare = rqY (sco ks) k) => show (xs ++ [x]).map G.bare = (e.ks.take (i + 1)).map (G.repl (sco ks)) by
          rw [his.take, List.map_append, List.map_append, hxs.out, List.map_cons, List.map_nil, hx, hrq]; rfl)
        have HG2 := Lib.hid (fun k' (hk' : k' < i + 1) e' (he' : G.Is e.ks k' e') => show e'.any (G.unk (sco ks)) = false by
          by_cases hki : k' = i
          · subst hki
            obtain ⟨_, h1⟩ := he'.eq
            obtain ⟨_, h2⟩ := his.eq
            rw [← h1, h2]; exact hku
          · exact hgood.out k' (by omega) e' he')
        rw [hku] at HI
        clear HBad HGood IH hku hgood hxs his hkin hrq
        go_wp2_with fail
        refine HI.out.mono ?_
        rintro r w3 ⟨x, rfl, hx, hxb, b3⟩
        have b4 := bTrans b3 (al1 w3 (.cells x.box 26))
        have hx4 := hx.below (al1 w3 (.cells x.box 26))
        have BX := Blk.new_ w3 x.box 26
        have HX3 := Lib.hid (HX2.out x hxb)
        clear hx hxb HI d0 d1 d2 d3 d4 d5 d6 k6 HX2 ho b3
        go_upto_region 13 with (fail)
        revert b4 hx4 BX
        generalize w3.alloc (.cells #[.int .i64 x.kd, .int .i64 x.lo, .int .i64 x.hi, .int .i64 x.sz, .string x.nm, .slice x.na x.ns.length x.nc, .slice x.ad x.ks.length x.cap] 26) = w4
        intro b4 hx4 BX
        have ho4 : w4.ownsRow (w.heap.size + 2) 26 7 (.slice A' i c') i (G.flat xs) := by
          have := Y.own.kept (row := none) (grown_of_below b4 none) (by cases hv : (Value.slice A' i c').ownBlock <;> simp)
          rwa [hxl] at this
        obtain ⟨n0, n1, n2, n3, n4, n5, n6⟩ := box_cells BX
        have hs4 := b4.size
        go_wp2_with (at_builtin; refine wpList_append_lies _ rfl _ _ 24 rfl (w.heap.size + 2) 26 i0 (.agg zbox) 7 96 Tryz.underlying24 hi0 hz0 hz1 hz2 rfl (by decide) (.slice A' i c') i (G.flat xs) rfl (ho4.alloc _) ⟨w4.heap.size, 0, none⟩ 1 1 (G.cells x) rfl rfl (new_cells w4 x 26) (cells_one x) (by decide) (by unfold maxLen; omega) (by omega) (by rw [World.size_alloc]; omega) _ rfl ?_; intro g cap w8 hown8 hgrow hat hlt8)
        have J := Y.step hxl hB b4 hx4 hown8 hgrow (hat.imp_right (by intro h; rw [h, World.size_alloc]))
        clear hown8 hgrow hat ho4 n0 n1 n2 n3 n4 n5 n6 BX b4 hx4 Y
        go_wp2_with fail
        go_roundw
        case rel => exact ⟨i + 1, xs ++ [x], by omega, by go_num, by rw [List.length_append, hxl]; rfl, HX3, HG2, J⟩
        case measure => simp [intOf]; omega
    · obtain rfl : i = n := by omega
      have hgl : ∀ k, k < e.ks.length → ∀ e', G.Is e.ks k e' → e'.any (G.unk (sco ks)) = false := fun k hk => hgood.out k (by rw [← hn.out]; exact hk)
      obtain ⟨hu1, hy1⟩ := HGood.out xs hgl (by rw [hxs.out, List.take_of_length_le (by rw [hn.out]; exact Nat.le_refl _)]) A' c'
      have hu2 : Hid (u = true) := Lib.hid hu1
      have hy2 : Hid ((G.mk e.kd e.lo e.hi e.sz e.nm e.na e.nc e.ns A' c' xs).bare = y) := Lib.hid hy1
      have HO := Lib.hid (RqW.done Y hxl hB hndS hkl)
      have P := Y.be.put 6 (.slice A' i c')
      have fb6 := Y.be.fr 6
      have hne : w.heap.size + 1 ≠ w.heap.size := by omega
      have Z : Blk (wr.setCell ⟨w.heap.size, 6, none⟩ (.slice A' i c')) (w.heap.size + 1) zbox := Y.br.far (by simp) _
      have p0 := P.c 0 (show (e.box.setIfInBounds 6 (.slice A' i c'))[0]? = some (.int .i64 e.kd) from rfl)
      have p1 := P.c 1 (show (e.box.setIfInBounds 6 (.slice A' i c'))[1]? = some (.int .i64 e.lo) from rfl)
      have p2 := P.c 2 (show (e.box.setIfInBounds 6 (.slice A' i c'))[2]? = some (.int .i64 e.hi) from rfl)
      have p3 := P.c 3 (show (e.box.setIfInBounds 6 (.slice A' i c'))[3]? = some (.int .i64 e.sz) from rfl)
      have p4 := P.c 4 (show (e.box.setIfInBounds 6 (.slice A' i c'))[4]? = some (.string e.nm) from rfl)
      have p5 := P.c 5 (show (e.box.setIfInBounds 6 (.slice A' i c'))[5]? = some (.slice e.na e.ns.length e.nc) from rfl)
      have p6 := P.c 6 (show (e.box.setIfInBounds 6 (.slice A' i c'))[6]? = some (.slice A' i c') from rfl)
      obtain ⟨z0, z1, z2, z3, z4, z5, z6⟩ := box_zero Z
      have f0 := Z.fr 0
      have f1 := Z.fr 1
      have f2 := Z.fr 2
      have f3 := Z.fr 3
      have f4 := Z.fr 4
      have f5 := Z.fr 5
      have f6 := Z.fr 6
      have HP := Lib.hid (box7 (seven_put Z (.int .i64 e.kd) (.int .i64 e.lo) (.int .i64 e.hi) (.int .i64 e.sz) (.string e.nm) (.slice e.na e.ns.length e.nc) (.slice A' i c')))
      unfold put7 at HO
      clear hu1 hy1 HGood HBad IH hxs hgood hgl Y P Z ho
      have HO2 := Lib.hid HO.out
      go_wp2_with fail
      obtain ⟨r0, r1, r2, r3, r4, r5, r6⟩ := HP.out
      refine bodyPost_ret (v := .tuple #[.agg #[.int .i64 e.kd, .int .i64 e.lo, .int .i64 e.hi, .int .i64 e.sz, .string e.nm, .slice e.na e.ns.length e.nc, .slice A' i c'], .bool true]) (by simp [results, Tryz.results81, go_sem, r0, r1, r2, r3, r4, r5, r6]) rfl ⟨G.mk e.kd e.lo e.hi e.sz e.nm e.na e.nc e.ns A' c' xs, by rw [hu2.out, ← hxl]; rfl, ?_, hy2.out, ?_⟩
      · have := HO2.out.1; rw [← hxl]; rw [← hxl] at this; exact this
      · have := HO2.out.2; rw [← hxl]; rw [← hxl] at this; exact this
theorem rreplace_any (ks : List Dc) (e : G) : RqE ks e := by
  induction e using G.ind with
  | h e ih =>
    by_cases h4 : e.kd = 4
    · exact rreplace_name ks e h4
    · exact rreplace_node ks e h4 ih
end Go.Proofs.YtlpnbcdnlbghdaaGreatDoor
