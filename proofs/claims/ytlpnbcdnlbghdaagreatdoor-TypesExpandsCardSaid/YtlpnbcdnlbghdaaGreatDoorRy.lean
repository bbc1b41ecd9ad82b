/- Walks: Known of the reference of types. -/
import Derived.Test.YtlpnbcdnlbghdaaGreatDoorRx
import Derived.Test.YtlpnbcdnlbghdaaGreatDoorXp
import Derived.Test.YtlpnbcdnlbghdaaGreatDoorCd
namespace Go.Proofs.YtlpnbcdnlbghdaaGreatDoor
open Go.RowKit Go.Sort
set_option linter.unusedVariables false

theorem G.In.inS {w : World} {B : Nat} {S : Nat → Prop} (hB : B ≤ w.heap.size) (hS : ∀ b, b < B → S b) (e : G) : G.In w B e → G.InS w S e := by
  have hr : ∀ {A : Option Addr} {xs : List Value}, Row w B A xs → RowS w S A xs := fun h => ⟨fun hp => by
    obtain ⟨b, off, h1, h2, h3⟩ := h.cells hp
    exact ⟨b, off, h1, hS b h2, by omega, h3⟩⟩
  induction e using G.ind with
  | h e ih =>
    rw [G.inS_eq, G.in_eq, G.inSL_iff, G.inL_iff]
    exact fun ⟨h1, h2⟩ => ⟨⟨h1.kd, h1.lo, h1.hi, h1.sz, h1.nm, h1.nlen, h1.names, hr h1.nrow, h1.len, hr h1.row⟩, fun k hk => ih k hk (h2 k hk)⟩
/-- two scopes that say the same but for addresses -/
def Like (σ σ' : G.Sco) : Prop := ∀ n, (G.look σ n).map G.bare = (G.look σ' n).map G.bare
theorem Like.non {σ σ' : G.Sco} (h : Like σ σ') (n : ByteArray) : (G.look σ n).isNone = (G.look σ' n).isNone := by
  have := congrArg Option.isNone (h n)
  simpa using this
theorem Like.repl {σ σ' : G.Sco} (h : Like σ σ') (t : G) : G.repl σ t = G.repl σ' t := by
  induction t using G.ind with
  | h t ih =>
    rw [G.repl_eq, G.repl_eq]
    by_cases h4 : t.kd = 4
    · rw [if_pos h4, if_pos h4]
      have h1 := h t.nm
      cases ha : G.look σ t.nm with
      | none =>
        cases hb : G.look σ' t.nm with
        | none => rfl
        | some b => rw [ha, hb] at h1; simp at h1
      | some a =>
        cases hb : G.look σ' t.nm with
        | none => rw [ha, hb] at h1; simp at h1
        | some b => rw [ha, hb] at h1; simp at h1; exact h1
    · rw [if_neg h4, if_neg h4]
      congr 1
      exact List.map_congr_left fun k hk => ih k hk
theorem any_cong_ {p q : G → Bool} (h : ∀ e, p e = q e) (e : G) : e.any p = e.any q := by rw [show p = q from funext h]
theorem Like.expT {σ σ' : G.Sco} (h : Like σ σ') (t : G) : G.expT nmB σ t = G.expT nmB σ' t := by
  unfold G.expT
  rw [h.repl t, any_cong_ (p := G.unk σ) (q := G.unk σ') (fun e => by unfold G.unk; rw [h.non e.nm]) t]
theorem look_snoc (σ : G.Sco) (m : ByteArray) (x : G) (n : ByteArray) : G.look (σ ++ [(m, x)]) n = match G.look σ n with | some t => some t | none => if m = n then some x else none := by
  induction σ with
  | nil => rw [List.nil_append, G.look_cons]; rfl
  | cons p σ ih =>
    obtain ⟨a, b⟩ := p
    rw [List.cons_append, G.look_cons, G.look_cons]
    by_cases h : a = n
    · rw [if_pos h, if_pos h]
    · rw [if_neg h, if_neg h, ih]
/-- one more declaration -/
theorem Like.snoc {ks : List Dc} {σ : G.Sco} {d : Dc} {y : G} (h : Like (sco ks) σ) (hn : G.look σ d.nm = none) (hx : d.t.bare = y.bare) : Like (sco (ks ++ [d])) ((d.nm, y) :: σ) := fun n => by
  have e : sco (ks ++ [d]) = sco ks ++ [(d.nm, d.t)] := by unfold sco; rw [List.map_append]; rfl
  rw [e, look_snoc, G.look_cons]
  have h1 := h n
  by_cases hnn : d.nm = n
  · subst hnn
    rw [hn] at h1
    cases ha : G.look (sco ks) d.nm with
    | none => simp [hx]
    | some a => rw [ha] at h1; simp at h1
  · cases ha : G.look (sco ks) n with
    | none => rw [ha] at h1; simpa [hnn] using h1
    | some a => rw [ha] at h1; simpa [hnn] using h1
theorem vs_snoc {ks : List Dc} {d : Dc} (h : G.VS nmB (sco ks)) (hd : G.Vd nmB d.t) : G.VS nmB (sco (ks ++ [d])) := fun p hp => by
  have e : sco (ks ++ [d]) = sco ks ++ [(d.nm, d.t)] := by unfold sco; rw [List.map_append]; rfl
  rw [e] at hp
  rcases List.mem_append.1 hp with hp | hp
  · exact h p hp
  · simp at hp; subst hp; exact hd
/-- what Known leaves -/
def KnP (B : Nat) (ds : List Dc) (w : World) (r : Ending) (w' : World) : Prop :=
  ∃ (A' : Option Addr) (c' : Nat) (ks : List Dc), r = .returned (.tuple #[.slice A' ks.length c', .int .i64 (G.knD nmB ds []).2]) ∧ ((G.knD nmB ds []).2 = 0 → Dc.L w' w'.heap.size A' ks ∧ (∀ d ∈ ks, G.InS w' (fun b => b < B ∨ w.heap.size ≤ b) d.t) ∧ G.VS nmB (sco ks) ∧ Like (sco ks) (G.knD nmB ds []).1) ∧ Below w.heap.size w w'
/-- blocks of the arguments or new ones, not the own row -/
abbrev KnS (B : Nat) (w : World) (v : Value) : Nat → Prop := fun b => some b ≠ v.ownBlock ∧ (b < B ∨ w.heap.size ≤ b)
/-- the world in the loop of Known -/
structure KnW (B : Nat) (w wr : World) (v : Value) (ks : List Dc) (n : Nat) : Prop where
  own : wr.ownsRow w.heap.size 45 17 v n (ks.flatMap Dc.cells)
  len : ks.length = n
  all : ∀ d ∈ ks, G.InS wr (KnS B w v) d.t
  nms : ∀ d ∈ ks, inI d.kd ∧ d.nm.size ≤ 9223372036854775807
  vs : G.VS nmB (sco ks)
  bel : Below w.heap.size w wr
theorem KnW.below {B : Nat} {w wr w' : World} {v : Value} {ks : List Dc} {n : Nat} (h : KnW B w wr v ks n) (hb : Below wr.heap.size wr w') : KnW B w w' v ks n :=
  ⟨h.own.kept (row := none) (grown_of_below hb none) (by cases hv : v.ownBlock <;> simp), h.len, fun d hd => (h.all d hd).below hb, h.nms, h.vs, bTrans h.bel hb⟩
theorem KnW.L {B : Nat} {w wr : World} {A : Option Addr} {c n : Nat} {ks : List Dc} (h : KnW B w wr (.slice A n c) ks n) (hn : n ≤ 1000000) : Dc.L wr wr.heap.size A ks :=
  ⟨by rw [h.len]; omega, (RowS.of_own h.own (by decide)).row, fun d hd => ⟨(h.nms d hd).1, (h.nms d hd).2, G.InS.in_ _ (h.all d hd)⟩⟩
theorem KnW.step {B : Nat} {w wr w8 : World} {v : Value} {ks : List Dc} {d : Dc} {n g cap T : Nat} (h : KnW B w wr v ks n) (hx : G.InS wr (KnS B w v) d.t) (hd : inI d.kd ∧ d.nm.size ≤ 9223372036854775807) (hv : G.Vd nmB d.t)
    (ho : w8.ownsRow w.heap.size 45 17 (.slice (some ⟨g, 0, none⟩) (n + 1) cap) (n + 1) (ks.flatMap Dc.cells ++ d.cells))
    (hg : (wr.alloc (.cells d.box T)).grownBy w8 v.ownBlock) (hat : v.ownBlock = some g ∨ g = wr.heap.size + 1) : KnW B w w8 (.slice (some ⟨g, 0, none⟩) (n + 1) cap) (ks ++ [d]) (n + 1) := by
  have hs8 := hg.size
  rw [World.size_alloc] at hs8
  have hk : ∀ e : G, G.InS wr (KnS B w v) e → G.InS w8 (KnS B w (.slice (some ⟨g, 0, none⟩) (n + 1) cap)) e := fun e he =>
    he.keep (fun p hp hlt => by
      rw [World.cell?_of_block (w := wr.alloc (.cells d.box T)) (hg.block _ (by rw [World.size_alloc]; omega) hp.1)]
      exact World.cell?_alloc_lt _ _ _ hlt) (fun b hb hlt => ⟨fun e => by
      have e' : b = g := by simpa [Value.ownBlock] using e
      rcases hat with h1 | h1
      · exact hb.1 (by rw [h1, e'])
      · omega, hb.2⟩) (by omega)
  refine ⟨?_, by rw [List.length_append, h.len]; rfl, fun x hx' => ?_, fun x hx' => ?_, vs_snoc h.vs hv, (h.bel.alloc h.bel.size _).grown hg (by rw [World.size_alloc]; have := h.bel.size; omega) (fun k e => (own_ge h.own e).1)⟩
  · rw [List.flatMap_append, List.flatMap_cons, List.flatMap_nil, List.append_nil]; exact ho
  · rcases List.mem_append.1 hx' with hx' | hx'
    · exact hk _ (h.all x hx')
    · simp at hx'; subst hx'; exact hk _ hx
  · rcases List.mem_append.1 hx' with hx' | hx'
    · exact h.nms x hx'
    · simp at hx'; subst hx'; exact hd
theorem dc_cells2 (w : World) (d : Dc) (T : TypeId) : ∀ j u, d.cells[j]? = some u → (w.alloc (.cells d.box T)).cell? ((⟨w.heap.size, 0, none⟩ : Addr).add j) = some u := fun j u hu => by
  rw [Go.WideShapes.add_plain, Nat.zero_add]
  exact (Blk.new_ w d.box T).c j (by show d.cells.toArray[j]? = some u; simpa using hu)
theorem dc_one2 (d : Dc) : ∀ u ∈ d.cells, u.oneCell' = true := fun u hu => dc_one (l := [d]) (by simpa using hu)
/-- a declaration that Known notes -/
abbrev dk (m : ByteArray) (x : G) : Dc := ⟨0, m, x, 0, 0, 0, ⟨#[]⟩, none, 0, 0, none, 0, 0, none, 0, 0, none, 0, 0⟩
theorem kn_cases (d : Dc) (l : List Dc) (σ : G.Sco) : G.knD nmB (d :: l) σ = if d.kd ≠ 0 then G.knD nmB l σ else if !nmB d.nm then (σ, 7) else if (G.look σ d.nm).isSome then (σ, 8) else if (G.expT nmB σ d.t).2 ≠ 0 then (σ, (G.expT nmB σ d.t).2) else G.knD nmB l ((d.nm, (G.expT nmB σ d.t).1) :: σ) := by simp only [G.knD]
set_option maxRecDepth 100000 in
set_option maxHeartbeats 4000000 in
theorem rknown_any (ds : List Dc) (A : Option Addr) (c0 B : Nat) (w : World) (hB : B ≤ w.heap.size) (hl : Dc.L w B A ds) (hn : ds.length ≤ 1000) (hnod : ∀ d ∈ ds, d.t.nodes ≤ 1000000) : Calls Tryz.prog 49 #[.slice A ds.length c0] w (KnP B ds w) := by
  obtain ⟨i0, hi0, hz0, hz1, hz2⟩ := info_parts infoDc
  have hlen := hl.len
  have HND := Lib.hid hnod
  have X0 : KnW B w w (.slice none 0 0) [] 0 := ⟨World.ownsRow_nil _ _ _ _, rfl, fun x hx => absurd hx (by simp), fun x hx => absurd hx (by simp), fun p hp => absurd hp (by simp [sco]), Below.refl _ _⟩
  have HK0 : Hid (G.knD nmB ds [] = G.knD nmB (ds.drop 0) []) := Lib.hid rfl
  obtain ⟨y, hy⟩ : ∃ y, Hid (G.knD nmB ds [] = y) := ⟨_, Lib.hid rfl⟩
  unfold KnP
  rw [hy.out] at HK0 ⊢
  clear hnod hy
  go_enter Tryz.func49, Tryz.ntmps49
  go_wp2_with fail
  go_loopw [4, 5, 6, 7, 8, 9] (fun lv iv s6 s7 s8 s9 wr => ∃ (i n : Nat) (ks : List Dc) (σ : G.Sco), i ≤ ds.length ∧ iv = .int .i64 i ∧ n ≤ i ∧ Hid (y = G.knD nmB (ds.drop i) σ) ∧ Hid (Like (sco ks) σ) ∧ KnW B w wr lv ks n) (fun _ iv _ _ _ _ _ => ds.length - (intOf iv).toNat)
  case atStart => exact ⟨0, 0, [], [], Nat.zero_le _, rfl, Nat.le_refl _, HK0, Lib.hid (fun n => rfl), X0⟩
  case round =>
    clear X0 HK0
    obtain ⟨i, n, ks, σ, hi, rfl, hni, hk, hlk, I⟩ := hrel
    obtain ⟨A', c', rfl⟩ := own_slice_ I.own
    by_cases hlt : i < ds.length
    · obtain ⟨ab, off, d, rfl, hab, ⟨d0, d1, d2, d3, d4, d5, d6, d7, d8, d9, d10, d11, d12, d13, d14, d15, d16⟩, his, hdin⟩ := (hl.below (I.bel.mono hB)).at_ hlt
      have HKN : Hid (y = if d.kd ≠ 0 then G.knD nmB (ds.drop (i + 1)) σ else if !nmB d.nm then (σ, 7) else if (G.look σ d.nm).isSome then (σ, 8) else if (G.expT nmB σ d.t).2 ≠ 0 then (σ, (G.expT nmB σ d.t).2) else G.knD nmB (ds.drop (i + 1)) ((d.nm, (G.expT nmB σ d.t).1) :: σ)) := Lib.hid (by
        obtain ⟨h1, h2⟩ := his.eq
        rw [hk.out, List.drop_eq_getElem_cons h1, h2, kn_cases])
      have hdn : d.t.nodes ≤ 1000000 := HND.out d (by obtain ⟨hx, rfl⟩ := his.eq; exact List.getElem_mem hx)
      have hal : Below wr.heap.size wr (wr.alloc (.cells d.box 45)) := al1 _ _
      have I2 := I.below hal
      have B2 := Blk.new_ wr d.box 45
      have hwz := I.bel.size
      have hd2 : G.In (wr.alloc (.cells d.box 45)) B d.t := hdin.t.below (hal.mono (Nat.le_trans hB hwz))
      have hdm := hdin.nm
      have hlkn := hlk.out.non d.nm
      clear hdin hk his I
      go_upto_region 6 with (refine wpList_store_new rfl 45 _ _ rfl wr _ d.box rfl rfl 45 (infoDecl d) rfl (declOne d) ?_)
      clear d0 d1 d2 d3 d4 d5 d6 d7 d8 d9 d10 d11 d12 d13 d14 d15 d16
      revert I2 B2 hd2 hal
      generalize wr.alloc (.cells #[.int .i64 d.kd, .string d.nm, .int .i64 d.t.kd, .int .i64 d.t.lo, .int .i64 d.t.hi, .int .i64 d.t.sz, .string d.t.nm, .slice d.t.na d.t.ns.length d.t.nc, .slice d.t.ad d.t.ks.length d.t.cap, .int .i64 d.ini, .int .i64 d.vo, .int .i64 d.vn, .string d.vs, .slice d.a0 d.n0 d.p0, .slice d.a1 d.n1 d.p1, .slice d.a2 d.n2 d.p2, .slice d.a3 d.n3 d.p3] 45) = w2
      intro hal I2 B2 hd2
      have hw2 : w.heap.size ≤ w2.heap.size := I2.bel.size
      clear hal
      generalize wr.heap.size = bd at B2 ⊢
      have g0 : w2.cell? ⟨bd, 0, none⟩ = some (.int .i64 d.kd) := B2.c 0 rfl
      have g1 : w2.cell? ⟨bd, 1, none⟩ = some (.string d.nm) := B2.c 1 rfl
      have g2 : w2.cell? ⟨bd, 2, none⟩ = some (.int .i64 d.t.kd) := B2.c 2 rfl
      have g3 : w2.cell? ⟨bd, 3, none⟩ = some (.int .i64 d.t.lo) := B2.c 3 rfl
      have g4 : w2.cell? ⟨bd, 4, none⟩ = some (.int .i64 d.t.hi) := B2.c 4 rfl
      have g5 : w2.cell? ⟨bd, 5, none⟩ = some (.int .i64 d.t.sz) := B2.c 5 rfl
      have g6 : w2.cell? ⟨bd, 6, none⟩ = some (.string d.t.nm) := B2.c 6 rfl
      have g7 : w2.cell? ⟨bd, 7, none⟩ = some (.slice d.t.na d.t.ns.length d.t.nc) := B2.c 7 rfl
      have g8 : w2.cell? ⟨bd, 8, none⟩ = some (.slice d.t.ad d.t.ks.length d.t.cap) := B2.c 8 rfl
      by_cases h0 : d.kd = 0
      · have q0 : (d.kd != 0) = false := by rw [h0]; rfl
        have HK2 : Hid (y = if !nmB d.nm then (σ, 7) else if (G.look σ d.nm).isSome then (σ, 8) else if (G.expT nmB σ d.t).2 ≠ 0 then (σ, (G.expT nmB σ d.t).2) else G.knD nmB (ds.drop (i + 1)) ((d.nm, (G.expT nmB σ d.t).1) :: σ)) := Lib.hid (by rw [HKN.out, if_neg (by rw [h0]; simp)])
        have HNm := Lib.hid (fun W => xisname_any d.nm W)
        clear h0 HKN
        cases hnm : nmB d.nm with
        | false =>
          rw [hnm] at HNm
          have HY : Hid (y = (σ, 7)) := Lib.hid (by rw [HK2.out, hnm]; rfl)
          have HE : Hid (Ending.returned (.tuple #[.slice none 0 0, .int .i64 7]) = Ending.returned (.tuple #[.slice none ([] : List Dc).length 0, .int .i64 y.2])) := Lib.hid (by rw [HY.out]; rfl)
          have bw := I2.bel
          clear HK2 hnm I2 hd2 B2
          go_wp2_with fail
          refine (HNm.out _).mono ?_
          rintro r w3 ⟨rfl, rfl⟩
          go_wp2_with fail
          go_ret2
          exact ⟨none, 0, [], HE.out, fun h => absurd h (by rw [HY.out]; show ¬ (7 : Int) = 0; decide), bw⟩
        | true =>
          rw [hnm] at HNm
          have HK3 : Hid (y = if (G.look σ d.nm).isSome then (σ, 8) else if (G.expT nmB σ d.t).2 ≠ 0 then (σ, (G.expT nmB σ d.t).2) else G.knD nmB (ds.drop (i + 1)) ((d.nm, (G.expT nmB σ d.t).1) :: σ)) := Lib.hid (by rw [HK2.out, hnm]; rfl)
          have hLk := I2.L (show n ≤ 1000000 by omega)
          have hksl := I2.len
          have HKL := Lib.hid hksl
          have b00 : Below w2.heap.size w2 w2 := Below.refl _ _
          clear HK2 hnm hksl
          go_wp2_with fail
          refine (HNm.out _).mono ?_
          rintro r w3 ⟨rfl, rfl⟩
          go_wp2_with fail
          clear g0 g1 g2 g3 g4 g5 g6 g7 g8
          go_loopw [7] (fun kv wx => ∃ j : Nat, j ≤ n ∧ kv = .int .i64 j ∧ Hid (∀ k, k < j → ∀ d', Dc.Is ks k d' → d'.nm ≠ d.nm) ∧ Below w2.heap.size w2 wx) (fun kv _ => n - (intOf kv).toNat)
          case atStart => exact ⟨0, Nat.zero_le _, rfl, Lib.hid (fun k hk => absurd hk (Nat.not_lt_zero _)), b00⟩
          case round =>
            clear b00
            obtain ⟨j, hj, rfl, hg, Bx⟩ := hrel
            have B3 := B2.below Bx B2.lt
            have gx0 : wr.cell? ⟨bd, 0, none⟩ = some (.int .i64 d.kd) := B3.c 0 rfl
            have gx1 : wr.cell? ⟨bd, 1, none⟩ = some (.string d.nm) := B3.c 1 rfl
            have gx2 : wr.cell? ⟨bd, 2, none⟩ = some (.int .i64 d.t.kd) := B3.c 2 rfl
            have gx3 : wr.cell? ⟨bd, 3, none⟩ = some (.int .i64 d.t.lo) := B3.c 3 rfl
            have gx4 : wr.cell? ⟨bd, 4, none⟩ = some (.int .i64 d.t.hi) := B3.c 4 rfl
            have gx5 : wr.cell? ⟨bd, 5, none⟩ = some (.int .i64 d.t.sz) := B3.c 5 rfl
            have gx6 : wr.cell? ⟨bd, 6, none⟩ = some (.string d.t.nm) := B3.c 6 rfl
            have gx7 : wr.cell? ⟨bd, 7, none⟩ = some (.slice d.t.na d.t.ns.length d.t.nc) := B3.c 7 rfl
            have gx8 : wr.cell? ⟨bd, 8, none⟩ = some (.slice d.t.ad d.t.ks.length d.t.cap) := B3.c 8 rfl
            by_cases hjn : j < n
            · obtain ⟨kb, ko, dd, rfl, hkb, ⟨e0, e1, e2, e3, e4, e5, e6, e7, e8, e9, e10, e11, e12, e13, e14, e15, e16⟩, hjs, hjin⟩ := (hLk.below Bx).at_ (show j < ks.length by rw [HKL.out]; exact hjn)
              by_cases hq : dd.nm = d.nm
              · have q1 : (dd.nm.toList == d.nm.toList) = true := by rw [str_eq]; exact decide_eq_true hq
                have HL := look_at hg.out hjs hq
                have hs2 : (G.look σ d.nm).isSome = true := by
                  rw [HL] at hlkn
                  cases hz : G.look σ d.nm with
                  | none => rw [hz] at hlkn; cases hlkn
                  | some _ => rfl
                have HY : Hid (y = (σ, 8)) := Lib.hid (by rw [HK3.out, hs2]; rfl)
                have HE : Hid (Ending.returned (.tuple #[.slice none 0 0, .int .i64 8]) = Ending.returned (.tuple #[.slice none ([] : List Dc).length 0, .int .i64 y.2])) := Lib.hid (by rw [HY.out]; rfl)
                have bw := bTrans I2.bel Bx
                clear hq HL hs2 hg hjs HK3 I2 B2 B3 hLk e0 e2 e3 e4 e5 e6 e7 e8 e9 e10 e11 e12 e13 e14 e15 e16 hjin
                go_wp2_with fail
                go_quiet (fail)
                go_wp2_with fail
                go_ret2
                exact ⟨none, 0, [], HE.out, fun h => absurd h (by rw [HY.out]; show ¬ (8 : Int) = 0; decide), bDrew bw _⟩
              · have q1 : (dd.nm.toList == d.nm.toList) = false := by rw [str_eq]; exact decide_eq_false hq
                have HG := Lib.hid (fun k (hk : k < j + 1) d' (hd' : Dc.Is ks k d') => show d'.nm ≠ d.nm by
                  by_cases hki : k = j
                  · subst hki
                    obtain ⟨_, h1⟩ := hd'.eq
                    obtain ⟨_, h2⟩ := hjs.eq
                    rw [← h1, h2]; exact hq
                  · exact hg.out k (by omega) d' hd')
                clear hq hg hjs e0 e2 e3 e4 e5 e6 e7 e8 e9 e10 e11 e12 e13 e14 e15 e16 hjin
                go_wp2_with fail
                go_quiet (fail)
                go_wp2_with fail
                go_roundw
                case rel => exact ⟨j + 1, by omega, by go_num, HG, bDrew Bx _⟩
                case measure => simp [intOf]; omega
            · obtain rfl : j = n := by omega
              have HL := look_no (ks := ks) (n := d.nm) (fun k hk => hg.out k (by rw [← HKL.out]; exact hk))
              have hln : G.look σ d.nm = none := by
                rw [HL] at hlkn
                cases hz : G.look σ d.nm with
                | none => rfl
                | some _ => rw [hz] at hlkn; cases hlkn
              have HLN := Lib.hid hln
              have I3 := I2.below Bx
              have hwx := I3.bel.size
              have hown : ∀ k, (Value.slice A' j c').ownBlock = some k → w.heap.size ≤ k ∧ k < wr.heap.size := fun k hk => own_ge I3.own hk
              obtain ⟨yt, hyt⟩ : ∃ yt, Hid (G.expT nmB (sco ks) d.t = yt) := ⟨_, Lib.hid rfl⟩
              have HYT : Hid (G.expT nmB σ d.t = yt) := Lib.hid ((hlk.out.expT d.t).symm.trans hyt.out)
              have HX := rexpand_any ks d.t (fun b => b < wr.heap.size ∧ KnS B w (.slice A' j c') b) A' c' wr (fun b hb => hb.1) (I3.L (by omega)) (fun x hx => (I3.all x hx).keep (fun _ _ _ => rfl) (fun b hb hlt => ⟨hlt, hb⟩) (Nat.le_refl _)) I3.vs
                (G.In.inS (B := B) (Nat.le_trans hB hwx) (fun b hb => ⟨by omega, fun e => by have := (hown b e.symm).1; omega, .inl hb⟩) d.t (hd2.below (Bx.mono (Nat.le_trans hB hw2)))) hdn
              rw [HKL.out, hyt.out] at HX
              have HX2 := Lib.hid HX
              have HK4 : Hid (y = if yt.2 ≠ 0 then (σ, yt.2) else G.knD nmB (ds.drop (i + 1)) ((d.nm, yt.1) :: σ)) := Lib.hid (by rw [HK3.out, hln, HYT.out]; rfl)
              have HVd := Lib.hid (show yt.2 = 0 → G.Vd nmB yt.1 from fun h => by have := G.expT_vd (t := d.t) I3.vs (by rw [hyt.out]; exact h); rwa [hyt.out] at this)
              unfold RxP at HX2
              clear HL hln hlkn hg HX HK3 hd2 hLk HYT hyt hdn I2 B2
              go_wp2_with fail
              refine HX2.out.mono ?_
              rintro r w3 ⟨x, rfl, hx, hxb, b3⟩
              have b4 := bTrans b3 (al1 w3 (.cells x.box 26))
              have BT := Blk.new_ w3 x.box 26
              have hx4 : G.InS (w3.alloc (.cells x.box 26)) (KnS B w (.slice A' j c')) x := (hx.below (al1 w3 (.cells x.box 26))).sub (fun b hb => by
                rcases hb with hb | hb
                · exact hb.2
                · exact ⟨fun e => by have := (hown b e.symm).2; omega, .inr (by omega)⟩)
              have I4 := I3.below b4
              have B4 := B3.below b4 B3.lt
              clear gx0 gx1 gx2 gx3 gx4 gx5 gx6 gx7 gx8 B3 I3 hx b3 b4 HX2 hown
              by_cases hc : yt.2 = 0
              · have q2 : (yt.2 != 0) = false := by rw [hc]; rfl
                have HK5 : Hid (y = G.knD nmB (ds.drop (i + 1)) ((d.nm, yt.1) :: σ)) := Lib.hid (by rw [HK4.out, if_neg (by rw [hc]; simp)])
                have hvd : G.Vd nmB x := G.Vd.of_bare (by rw [hxb]; exact HVd.out hc)
                have HLk2 : Hid (Like (sco (ks ++ [dk d.nm x])) ((d.nm, yt.1) :: σ)) := Lib.hid (hlk.out.snoc (d := dk d.nm x) HLN.out (show x.bare = yt.1.bare by rw [← hxb, G.bare_bare]))
                have HVx := Lib.hid hvd
                clear hc HK4 HVd hvd HLN
                go_upto_region 15 with (fail)
                revert BT hx4 I4 B4
                generalize w3.alloc (.cells #[.int .i64 x.kd, .int .i64 x.lo, .int .i64 x.hi, .int .i64 x.sz, .string x.nm, .slice x.na x.ns.length x.nc, .slice x.ad x.ks.length x.cap] 26) = w4
                intro BT hx4 I4 B4
                obtain ⟨n0, n1, n2, n3, n4, n5, n6⟩ := box_cells BT
                have gx1 : w4.cell? ⟨bd, 1, none⟩ = some (.string d.nm) := B4.c 1 rfl
                have hsz4 := I4.bel.size
                go_wp2_with (at_builtin; refine wpList_append_lies _ rfl _ _ 32 rfl w.heap.size 45 i0 (.agg #[.int .i64 0, .string ⟨#[]⟩, .int .i64 0, .int .i64 0, .int .i64 0, .int .i64 0, .string ⟨#[]⟩, .slice none 0 0, .slice none 0 0, .int .i64 0, .int .i64 0, .int .i64 0, .string ⟨#[]⟩, .slice none 0 0, .slice none 0 0, .slice none 0 0, .slice none 0 0]) 17 256 Tryz.underlying32 hi0 hz0 hz1 hz2 rfl (by decide) (.slice A' j c') j (ks.flatMap Dc.cells) rfl (I4.own.alloc _) ⟨w4.heap.size, 0, none⟩ 1 1 (dk d.nm x).cells rfl rfl (dc_cells2 w4 (dk d.nm x) 45) (dc_one2 _) (by decide) (by unfold maxLen; omega) (by omega) (by rw [World.size_alloc]; omega) _ rfl ?_; intro g cap w8 hown8 hgrow hat hlt8)
                have J := I4.step (d := dk d.nm x) hx4 ⟨by show inI 0; unfold inI; omega, hdm⟩ HVx.out hown8 hgrow (hat.imp_right (by intro h; rw [h, World.size_alloc]))
                clear hown8 hgrow hat n0 n1 n2 n3 n4 n5 n6 BT hx4 I4 B4 gx1
                go_wp2_with fail
                go_roundw
                case rel => exact ⟨i + 1, j + 1, ks ++ [dk d.nm x], (d.nm, yt.1) :: σ, by omega, by go_num, by omega, HK5, HLk2, J⟩
                case measure => simp [intOf]; omega
              · have q2 : (yt.2 != 0) = true := by simpa using hc
                have HY : Hid (y = (σ, yt.2)) := Lib.hid (by rw [HK4.out, if_pos hc])
                have HE : Hid (Ending.returned (.tuple #[.slice none 0 0, .int .i64 yt.2]) = Ending.returned (.tuple #[.slice none ([] : List Dc).length 0, .int .i64 y.2])) := Lib.hid (by rw [HY.out]; rfl)
                have HCC := Lib.hid hc
                have bw := I4.bel
                clear hc HK4 HVd HLN hx4 B4 I4 BT
                go_wp2_with fail
                go_ret2
                exact ⟨none, 0, [], HE.out, fun h => absurd h (by rw [HY.out]; exact HCC.out), bw⟩
      · have q0 : (d.kd != 0) = true := by simpa using h0
        have HK2 : Hid (y = G.knD nmB (ds.drop (i + 1)) σ) := Lib.hid (by rw [HKN.out, if_pos h0])
        clear h0 HKN hd2
        go_wp2_with fail
        go_roundw
        case rel => exact ⟨i + 1, n, ks, σ, by omega, by go_num, by omega, HK2, hlk, I2⟩
        case measure => simp [intOf]; omega
    · obtain rfl : i = ds.length := by omega
      have hy2 : y = (σ, 0) := by
        rw [hk.out, List.drop_length]; simp only [G.knD]
      have HE : Hid (Ending.returned (.tuple #[.slice A' n c', .int .i64 0]) = Ending.returned (.tuple #[.slice A' ks.length c', .int .i64 y.2])) := Lib.hid (by rw [hy2, I.len])
      have HY := Lib.hid hy2
      have bw := I.bel
      have hLL := Lib.hid (I.L (by omega))
      have hVV := Lib.hid I.vs
      have hAA := Lib.hid (fun d hd => (I.all d hd).sub (S' := fun b => b < B ∨ w.heap.size ≤ b) (fun b hb => hb.2))
      clear hy2 hk I
      go_wp2_with fail
      go_ret2
      exact ⟨A', c', ks, HE.out, fun _ => ⟨hLL.out, hAA.out, hVV.out, by rw [HY.out]; exact hlk.out⟩, bw⟩
end Go.Proofs.YtlpnbcdnlbghdaaGreatDoor
