/- Walks: Scalars and Values of package types. -/
import Derived.Test.YtlifnabeilnblaaGreatDoorCm
import Derived.Laws.EntriesVeiled
namespace Go.Proofs.YtlifnabeilnblaaGreatDoor
open Go.RowKit Go.Sort
set_option linter.unusedVariables false

theorem fm_const {β : Type} (f : Nat → List β) (c n : Nat) (h : ∀ i, (f i).length = c) : ((List.range n).flatMap f).length = n * c := by
  induction n with
  | zero => simp
  | succ n ih => rw [List.range_succ, List.flatMap_append, List.length_append, ih, Nat.succ_mul]; simp [h n]
namespace G
theorem scal_two (e : G) (p : ByteArray) (h : e.kd = 2) : scal e p = (List.range e.sz.toNat).flatMap fun i => scalH e.ks (jn p (num i)) := by
  cases e; rw [scal, if_pos (by exact h)]; rfl
theorem scal_three (e : G) (p : ByteArray) (h : e.kd = 3) : scal e p = scalL e.ks e.ns p := by
  cases e with
  | mk k lo hi sz nm na nc ns a c ks =>
    have h' : k = 3 := h
    rw [scal, if_neg (by omega), if_pos h']; rfl
theorem scal_len (e : G) : e.any mal = false → e.any out = false → e.any isName = false → e.cnt ≤ 32 → ∀ p, ((scal e p).length : Int) = e.cnt := by
  induction e using G.ind with
  | h e ih =>
    intro h1 h2 h3 h4 p
    have f := (mal_iff e).1 (any_self h1)
    have ho := any_self h2
    have hn := any_self h3
    unfold isName at hn
    have hk4 : e.kd ≠ 4 := by simpa using hn
    have hpos := fun k (hk : k ∈ e.ks) (hc : k.cnt ≤ 32) => (nodes_cnt k (any_kid h1 hk) (any_kid h2 hk) (any_kid h3 hk) hc).1
    have hge1 : ∀ k ∈ e.ks, 1 ≤ k.cnt := fun k hk => by
      by_cases hc : k.cnt ≤ 32
      · exact hpos k hk hc
      · omega
    by_cases q2 : e.kd = 2
    · have hl := f.ar q2
      unfold out inr at ho
      rw [q2] at ho
      simp at ho
      rw [scal_two e p q2]
      cases hks : e.ks with
      | nil => rw [hks] at hl; simp at hl
      | cons x l =>
        have hm : x ∈ e.ks := by rw [hks]; simp
        have hce : e.cnt = min (e.sz * x.cnt) 33 := by rw [cnt_eq', if_pos q2, hks]; simp only [cnt.cntH]
        have hx1 := hge1 x hm
        have hsa : e.cnt = e.sz * x.cnt := by omega
        have hxle : x.cnt ≤ e.sz * x.cnt := by
          have := Int.mul_le_mul_of_nonneg_right ho.1 (by omega : (0 : Int) ≤ x.cnt)
          omega
        have ihx := ih x hm (any_kid h1 hm) (any_kid h2 hm) (any_kid h3 hm) (by omega)
        rw [fm_const _ x.cnt.toNat e.sz.toNat (fun i => by have := ihx (jn p (num i)); simp only [scalH]; omega), hsa]
        push_cast
        rw [show ((e.sz.toNat : Nat) : Int) = e.sz by omega, show ((x.cnt.toNat : Nat) : Int) = x.cnt by omega]
    · by_cases q3 : e.kd = 3
      · have hrc := (f.rc q3).2
        have hce : e.cnt = min (cnt.cntL e.ks) 33 := by rw [cnt_eq', if_neg q2, if_pos q3]
        have hsa : e.cnt = cnt.cntL e.ks := by omega
        rw [scal_three e p q3, hsa]
        have key : ∀ (l : List G) (ms : List ByteArray), l.length = ms.length → (∀ k ∈ l, 1 ≤ k.cnt) → cnt.cntL l ≤ 32 → (∀ k ∈ l, k.cnt ≤ 32 → ∀ p, ((scal k p).length : Int) = k.cnt) → ((scalL l ms p).length : Int) = cnt.cntL l := by
          intro l
          induction l with
          | nil => intro ms hl _ _ _; cases ms with
            | nil => simp [scalL, cnt.cntL]
            | cons _ _ => simp at hl
          | cons x l ihl =>
            intro ms hl hp hc hh
            cases ms with
            | nil => simp at hl
            | cons n ms =>
              have h5 := cntL_ge (l := l) fun k hk => hp k (by simp [hk])
              have h6 := hp x (by simp)
              simp only [cnt.cntL] at hc
              have h7 := ihl ms (by simpa using hl) (fun k hk => hp k (by simp [hk])) (by omega) (fun k hk => hh k (by simp [hk]))
              have h8 := hh x (by simp) (by omega) (jn p n)
              simp only [scalL, cnt.cntL, List.length_append]
              push_cast
              omega
        exact key e.ks e.ns hrc hge1 (by omega) (fun k hk hc => ih k hk (any_kid h1 hk) (any_kid h2 hk) (any_kid h3 hk) hc)
      · have h0 : e.kd = 0 ∨ e.kd = 1 := by
          have := f.k0; have := f.k5
          omega
        rw [scal_leaf _ p h0]
        have hce : e.cnt = 1 := by rw [cnt_eq', if_neg q2, if_neg q3]; rfl
        rw [hce]; rfl
/-- what holds of the scalars' bounds -/
def sOk (s : Sl) : Prop := s.lo ≤ s.hi ∧ -1048576 ≤ s.lo ∧ s.hi ≤ 1048576
theorem scal_bd (e : G) : e.any mal = false → e.any out = false → e.any isName = false → ∀ p, ∀ s ∈ scal e p, sOk s := by
  induction e using G.ind with
  | h e ih =>
    intro h1 h2 h3 p s hs
    have f := (mal_iff e).1 (any_self h1)
    have ho := any_self h2
    have hn := any_self h3
    unfold isName at hn
    have hk4 : e.kd ≠ 4 := by simpa using hn
    have h0 := f.k0
    have h5 := f.k5
    by_cases hk : e.kd = 0 ∨ e.kd = 1
    · rw [scal_leaf e p hk] at hs
      simp only [List.mem_singleton] at hs
      subst hs
      by_cases h : e.kd = 0
      · rw [if_pos h]; show (0 : Int) ≤ 1 ∧ (-1048576 : Int) ≤ 0 ∧ (1 : Int) ≤ 1048576; decide
      · rw [if_neg h]
        have hk1 : e.kd = 1 := by omega
        unfold out inr ival at ho
        rw [hk1] at ho
        simp at ho
        exact ⟨ho.1.1, ho.1.2.1, ho.2.2⟩
    · rw [scal_comps e p (by omega) (by omega)] at hs
      obtain ⟨c, hc, hsc⟩ := List.mem_flatMap.1 hs
      have hck : c.2 ∈ e.ks := by
        unfold comps at hc
        split at hc
        · unfold comps2 at hc
          cases hks : e.ks with
          | nil => rw [hks] at hc; cases hc
          | cons k l => rw [hks] at hc; obtain ⟨i, _, rfl⟩ := List.mem_map.1 hc; simp
        · split at hc
          · exact (List.of_mem_zip hc).2
          · cases hc
      exact ih c.2 hck (any_kid h1 hck) (any_kid h2 hck) (any_kid h3 hck) _ s hsc
/-- Scalars -/
def scalR (nmB : ByteArray → Bool) (e : G) : List Sl × Int := if chkT nmB e ≠ 0 then ([], chkT nmB e) else (scal e ⟨#[]⟩, 0)
theorem scalR_ok {nmB : ByteArray → Bool} (e : G) : (scalR nmB e).1.length ≤ 32 ∧ ∀ s ∈ (scalR nmB e).1, sOk s := by
  unfold scalR
  by_cases h : chkT nmB e ≠ 0
  · rw [if_pos h]; exact ⟨by simp, fun s hs => absurd hs (by simp)⟩
  · rw [if_neg h]
    have v := Vd.of_chkT (by simpa using h)
    have := scal_len e v.mal v.out v.nam v.cnt ⟨#[]⟩
    have := v.cnt
    exact ⟨by show (scal e _).length ≤ 32; omega, scal_bd e v.mal v.out v.nam _⟩
/-- the number of values, unless it is too large -/
def valF : List Sl → Int → Option Int
  | [], t => some t
  | s :: l, t => if 1099511627776 < t * (s.hi - s.lo + 1) then none else valF l (t * (s.hi - s.lo + 1))
/-- Values -/
def valR (nmB : ByteArray → Bool) (e : G) : Int × Int := if (scalR nmB e).2 ≠ 0 then (0, (scalR nmB e).2) else match valF (scalR nmB e).1 1 with | none => (0, 4) | some t => (t, 0)
end G
/-- a call hands back scalars and a code -/
def NewSl (y : List Sl × Int) (w : World) (r : Ending) (w' : World) : Prop := ∃ A c, r = .returned (.tuple #[.slice A y.1.length c, .int .i64 y.2]) ∧ RowS w' (New w) A (flatS y.1) ∧ Below w.heap.size w w'
set_option maxRecDepth 100000 in
set_option maxHeartbeats 2000000 in
theorem scalars_any (e : G) (w : World) (hin : G.In w w.heap.size e) (hT : Tb w.heap.size w) : Calls Tryz.prog 10 #[e.val] w (NewSl (G.scalR nmB e) w) := by
  have X := Eb.start w e 26
  have C1 := Lib.hid (fun W (i : Eb w W e) => tcheck_any e W (hin.at i.bel) (hT.at i.bel))
  have HR : Hid (G.scalR nmB e = if G.chkT nmB e ≠ 0 then ([], G.chkT nmB e) else (G.scal e ⟨#[]⟩, 0)) := Lib.hid rfl
  have HV : Hid (G.chkT nmB e = 0 → G.Vd nmB e) := Lib.hid G.Vd.of_chkT
  have Hin := Lib.hid hin
  obtain ⟨y, hy⟩ : ∃ y, Hid (G.scalR nmB e = y) := ⟨_, Lib.hid rfl⟩
  obtain ⟨c, hc⟩ : ∃ c, Hid (G.chkT nmB e = c) := ⟨_, Lib.hid rfl⟩
  rw [hc.out] at C1 HR HV
  rw [hy.out] at HR ⊢
  clear hy hc hT hin
  go_enter Tryz.func10, Tryz.ntmps10
  go_upto_region 1 with (fail)
  revert X
  generalize w.alloc (.cells #[.int .i64 e.kd, .int .i64 e.lo, .int .i64 e.hi, .int .i64 e.sz, .string e.nm, .slice e.na e.ns.length e.nc, .slice e.ad e.ks.length e.cap] 26) = w1
  intro X
  obtain ⟨k0, k1, k2, k3, k4, k5, k6⟩ := box_cells X.be
  go_wp2_with fail
  refine (C1.out _ X).mono ?_
  rintro r w2 ⟨rfl, b2⟩
  replace X := X.below b2
  clear k0 k1 k2 k3 k4 k5 k6 b2
  by_cases h0 : c = 0
  · have q0 : (c != 0) = false := by rw [h0]; rfl
    have HY : Hid (y = (G.scal e ⟨#[]⟩, 0)) := Lib.hid (by rw [HR.out, if_neg (by rw [h0]; simp)])
    have V := Lib.hid (HV.out h0)
    clear HR HV h0 C1
    have hz := X.bel.size
    have hl := X.be.lt
    have S4 : SI (w2.heap.size + 2) w2.heap.size (w2.heap.size + 1) ((w2.alloc (.cells #[.slice none 0 0] 34)).alloc (.cells #[colV w2.heap.size (w2.heap.size + 1)] 72)) (.slice none 0 0) [] 0 :=
      ⟨(One.new_ _ _ _).alloc _, by
        have := One.new_ (w2.alloc (.cells #[.slice none 0 0] 34)) (colV w2.heap.size (w2.heap.size + 1)) 72
        rwa [World.size_alloc] at this, World.ownsRow_nil _ _ _ _, rfl, by omega, by omega, by omega, by simp⟩
    have b4 : Below w2.heap.size w2 ((w2.alloc (.cells #[.slice none 0 0] 34)).alloc (.cells #[colV w2.heap.size (w2.heap.size + 1)] 72)) := (al1 _ _).alloc (by simp) _
    have X4 := X.below b4
    have HC := Lib.hid (collect_any e (w2.heap.size + 2) w2.heap.size (w2.heap.size + 1) w2.heap.size 0 ⟨#[]⟩ _ _ _ S4 (((Hin.out.below X.bel).more hz).below b4) (Nat.le_refl _) (by omega) (by have := V.out.dep; show 0 + 13 * e.dep ≤ 1000; omega) ⟨V.out.mal, V.out.mis, V.out.out, V.out.nam⟩ (by
      have := G.scal_len e V.out.mal V.out.out V.out.nam V.out.cnt ⟨#[]⟩
      have := V.out.cnt
      omega))
    rw [List.nil_append] at HC
    obtain ⟨k0, k1, k2, k3, k4, k5, k6⟩ := box_cells X.be
    go_wp2_with fail
    refine HC.out.mono ?_
    rintro r w5 ⟨v', rfl, I5, F5⟩
    have cl := I5.bl.c
    obtain ⟨A', c', rfl⟩ := own_slice_ I5.own
    have hr := RowS.of_own I5.own (by decide)
    have b5 : Below w.heap.size w w5 := X4.bel.trans (F5.low S4 hz)
    have HV5 : Hid (Ending.returned (.tuple #[.slice A' (G.scal e ⟨#[]⟩).length c', .int .i64 0]) = Ending.returned (.tuple #[.slice A' y.1.length c', .int .i64 y.2])) := Lib.hid (by rw [HY.out])
    go_wp2_with fail
    go_ret2
    exact ⟨A', c', HV5.out, by rw [HY.out]; exact hr.keep (fun _ _ _ => rfl) (fun b hb _ => by show w.heap.size ≤ b; omega) (Nat.le_refl _), b5⟩
  · have q0 : (c != 0) = true := by simpa using h0
    have HY : Hid (y = ([], c)) := Lib.hid (by rw [HR.out, if_pos h0])
    have b2 := X.bel
    have HV5 : Hid (Ending.returned (.tuple #[.slice none 0 0, .int .i64 c]) = Ending.returned (.tuple #[.slice none y.1.length 0, .int .i64 y.2])) := Lib.hid (by rw [HY.out]; rfl)
    clear HR HV h0 C1
    go_wp2_with fail
    go_ret2
    exact ⟨none, 0, HV5.out, by rw [HY.out]; exact ⟨fun h => absurd h (by simp [flatS])⟩, b2⟩
end Go.Proofs.YtlifnabeilnblaaGreatDoor
/- Walks: Values of package types. -/
namespace Go.Proofs.YtlifnabeilnblaaGreatDoor
open Go.RowKit Go.Sort
set_option linter.unusedVariables false

/-- a scalar's cells in memory -/
structure SlAt (w : World) (b o : Nat) (s : Sl) : Prop where
  c0 : w.cell? ⟨b, o, none⟩ = some (.string s.path)
  c1 : w.cell? ⟨b, o + 1, none⟩ = some (.bool s.bool)
  c2 : w.cell? ⟨b, o + 2, none⟩ = some (.int .i64 s.lo)
  c3 : w.cell? ⟨b, o + 3, none⟩ = some (.int .i64 s.hi)
theorem sl_at {w : World} {B : Nat} {A : Option Addr} {l : List Sl} (h : Row w B A (flatS l)) {i : Nat} (hi : i < l.length) :
    ∃ b off s, A = some ⟨b, off, none⟩ ∧ b < B ∧ l[i]? = some s ∧ SlAt w b (off + i * 4) s := by
  obtain ⟨b, off, e, hb, hc⟩ := h.cells (by unfold flatS; rw [flatLen sCells 4 (fun _ => rfl)]; omega)
  have hf : ∀ j, j < 4 → (flatS l)[i * 4 + j]? = (sCells l[i])[j]? := fun j hj => flatAt sCells 4 (fun _ => rfl) l hi hj
  exact ⟨b, off, l[i], e, hb, List.getElem?_eq_getElem hi, hc _ _ (hf 0 (by omega)), hc _ _ (hf 1 (by omega)), hc _ _ (hf 2 (by omega)), hc _ _ (hf 3 (by omega))⟩
theorem drop_cons_ {α : Type} {l : List α} {i : Nat} {x : α} (h : l[i]? = some x) : l.drop i = x :: l.drop (i + 1) := by
  obtain ⟨hi, rfl⟩ := List.getElem?_eq_some_iff.1 h
  exact List.drop_eq_getElem_cons hi
set_option maxRecDepth 100000 in
set_option maxHeartbeats 2000000 in
theorem values_any (e : G) (w : World) (hin : G.In w w.heap.size e) (hT : Tb w.heap.size w) :
    Calls Tryz.prog 14 #[e.val] w fun r w' => r = .returned (.tuple #[.int .i64 (G.valR nmB e).1, .int .i64 (G.valR nmB e).2]) ∧ Below w.heap.size w w' := by
  have X := Eb.start w e 26
  have C1 := Lib.hid (fun W (i : Eb w W e) => scalars_any e W (hin.at i.bel) (hT.at i.bel))
  have HR : Hid (G.valR nmB e = if (G.scalR nmB e).2 ≠ 0 then (0, (G.scalR nmB e).2) else match G.valF (G.scalR nmB e).1 1 with | none => (0, 4) | some t => (t, 0)) := Lib.hid rfl
  obtain ⟨hlen, hok⟩ := G.scalR_ok (nmB := nmB) e
  obtain ⟨z, hz⟩ : ∃ z, Hid (G.valR nmB e = z) := ⟨_, Lib.hid rfl⟩
  obtain ⟨y, hy⟩ : ∃ y, Hid (G.scalR nmB e = y) := ⟨_, Lib.hid rfl⟩
  rw [hy.out] at C1 HR hlen hok
  rw [hz.out] at HR ⊢
  have HOK := Lib.hid hok
  obtain ⟨ys, c⟩ := y
  clear hz hy hT hin hok
  go_enter Tryz.func14, Tryz.ntmps14
  go_upto_region 1 with (fail)
  revert X
  generalize w.alloc (.cells #[.int .i64 e.kd, .int .i64 e.lo, .int .i64 e.hi, .int .i64 e.sz, .string e.nm, .slice e.na e.ns.length e.nc, .slice e.ad e.ks.length e.cap] 26) = w1
  intro X
  obtain ⟨k0, k1, k2, k3, k4, k5, k6⟩ := box_cells X.be
  go_wp2_with fail
  refine (C1.out _ X).mono ?_
  rintro r w2 ⟨A, c', rfl, hr, b2⟩
  replace X := X.below b2
  have hrow := Lib.hid hr.row
  clear k0 k1 k2 k3 k4 k5 k6 b2 C1 hr
  have bl := X.bel
  clear X
  dsimp only at hlen hrow
  by_cases h0 : c = 0
  · have q0 : (c != 0) = false := by rw [h0]; rfl
    have HR2 : Hid (z = match G.valF ys 1 with | none => (0, 4) | some t => (t, 0)) := Lib.hid (by rw [HR.out, if_neg (by rw [h0]; simp)])
    obtain ⟨n, hn⟩ : ∃ n, Hid (ys.length = n) := ⟨_, Lib.hid rfl⟩
    rw [hn.out] at hlen
    have hlI : ys.length = n := hn.out
    clear HR h0
    go_wp2_with fail
    clear hlI
    go_loopw [6, 19] (fun tv iv wr => ∃ (i : Nat) (t : Int), i ≤ n ∧ iv = .int .i64 i ∧ tv = .int .i64 t ∧ Hid (G.valF ys 1 = G.valF (ys.drop i) t) ∧ 1 ≤ t ∧ t ≤ 1099511627776 ∧ Below w2.heap.size w2 wr) (fun _ iv _ => n - (intOf iv).toNat)
    case atStart => exact ⟨0, 1, Nat.zero_le _, rfl, rfl, Lib.hid rfl, by omega, by omega, Below.refl _ _⟩
    case round =>
      obtain ⟨i, t, hi, rfl, rfl, hv, ht1, ht2, Y⟩ := hrel
      by_cases hlt : i < n
      · obtain ⟨b, off, s, rfl, hb, hsi, d0, d1, d2, d3⟩ := sl_at (hrow.out.below Y) (show i < ys.length by rw [hn.out]; exact hlt)
        have hs := HOK.out s (List.mem_of_getElem? hsi)
        have hdr := drop_cons_ hsi
        have HN : Hid (G.valF ys 1 = if 1099511627776 < t * (s.hi - s.lo + 1) then none else G.valF (ys.drop (i + 1)) (t * (s.hi - s.lo + 1))) := Lib.hid (by rw [hv.out, hdr]; rfl)
        unfold G.sOk at hs
        obtain ⟨sp, sb, lo, hi2⟩ := s
        dsimp only at d0 d1 d2 d3 hs HN
        obtain ⟨hs1, hs2, hs3⟩ := hs
        have Y2 := Y.alloc Y.size (.cells #[.string sp, .bool sb, .int .i64 lo, .int .i64 hi2] 39)
        have hq : 1 ≤ hi2 - lo + 1 ∧ hi2 - lo + 1 ≤ 2097153 := by omega
        have e1 : IntKind.i64.wrap (hi2 - lo) = hi2 - lo := IntWalk.i64_in _ (by omega)
        have e2 : IntKind.i64.wrap (hi2 - lo + 1) = hi2 - lo + 1 := IntWalk.i64_in _ (by omega)
        obtain ⟨q, hqq⟩ : ∃ q, hi2 - lo + 1 = q := ⟨_, rfl⟩
        rw [hqq] at hq HN e2
        have hm1 : 1 ≤ t * q := by
          have := Int.mul_le_mul ht1 hq.1 (by decide) (by omega)
          omega
        have hm2 : t * q ≤ 1099511627776 * 2097153 := Int.mul_le_mul ht2 hq.2 (by omega) (by decide)
        obtain ⟨m, hm⟩ : ∃ m, t * q = m := ⟨_, rfl⟩
        rw [hm] at hm1 hm2 HN
        have e3 : IntKind.i64.wrap (t * q) = m := by rw [hm]; exact IntWalk.i64_in _ (by omega)
        have hmm := Lib.hid hm
        by_cases hgt : 1099511627776 < m
        · have HZ : Hid (z = (0, 4)) := Lib.hid (by
            have := HN.out
            rw [if_pos hgt] at this
            rw [HR2.out, this])
          have HZ2 := Lib.hid (show Ending.returned (.tuple #[.int .i64 0, .int .i64 4]) = Ending.returned (.tuple #[.int .i64 z.1, .int .i64 z.2]) by rw [HZ.out])
          clear HN hv hdr hsi hm hm1 hm2 hq HR2
          go_wp2_with fail
          go_ret2
          exact ⟨HZ2.out, bTrans bl Y2⟩
        · have HN2 : Hid (G.valF ys 1 = G.valF (ys.drop (i + 1)) m) := Lib.hid (by rw [HN.out, if_neg hgt])
          have hle : m ≤ 1099511627776 := by omega
          clear HN hv hdr hsi hm hm2 hq
          go_wp2_with fail
          go_roundw
          case rel => exact ⟨i + 1, m, by omega, by go_num, rfl, HN2, hm1, hle, Y2⟩
          case measure => simp [intOf]; omega
      · obtain rfl : i = n := by omega
        have HZ : Hid (z = (t, 0)) := Lib.hid (by
          have := hv.out
          rw [List.drop_of_length_le (by rw [hn.out]; exact Nat.le_refl _)] at this
          rw [HR2.out, this]; rfl)
        have HZ2 := Lib.hid (show Ending.returned (.tuple #[.int .i64 t, .int .i64 0]) = Ending.returned (.tuple #[.int .i64 z.1, .int .i64 z.2]) by rw [HZ.out])
        clear hv HR2
        go_wp2_with fail
        go_ret2
        exact ⟨HZ2.out, bTrans bl Y⟩
  · have q0 : (c != 0) = true := by simpa using h0
    have HZ : Hid (z = (0, c)) := Lib.hid (by rw [HR.out, if_pos h0])
    have HZ2 := Lib.hid (show Ending.returned (.tuple #[.int .i64 0, .int .i64 c]) = Ending.returned (.tuple #[.int .i64 z.1, .int .i64 z.2]) by rw [HZ.out])
    clear HR h0
    go_wp2_with fail
    go_ret2
    exact ⟨HZ2.out, bl⟩
end Go.Proofs.YtlifnabeilnblaaGreatDoor
