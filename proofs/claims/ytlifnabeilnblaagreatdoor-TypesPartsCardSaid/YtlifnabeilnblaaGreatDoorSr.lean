/- Walks: the declared types in a map; replaced; the condition of expand. -/
import Derived.Test.YtlifnabeilnblaaGreatDoorCo
namespace Go.Proofs.YtlifnabeilnblaaGreatDoor
open Go.RowKit Go.Sort Go.Maps
set_option linter.unusedVariables false

/-- an element of the scope's map reads as itself -/
def rh (v : Value) : Option (DataW Value × List MemPlace) := some (.held v, [])
/-- the map behind a scope -/
def Dm : G.Sco → DataW Value
  | [] => .map []
  | p :: σ => (Dm σ).put (.string (slt p.1)) (.held p.2.val)
theorem Dm_tidy (σ : G.Sco) : Tidy (Dm σ) := by
  induction σ with
  | nil => exact tidy_empty
  | cons p σ ih => exact ih.put (keyLit _) _
namespace G
theorem look_same (n : ByteArray) (x : G) (σ : Sco) : look ((n, x) :: σ) n = some x := by unfold look; rw [List.find?_cons]; simp
theorem look_other {n m : ByteArray} (x : G) (σ : Sco) (h : m ≠ n) : look ((m, x) :: σ) n = look σ n := by unfold look; rw [List.find?_cons]; simp [h]
theorem look_mem {σ : Sco} {n : ByteArray} {x : G} (h : look σ n = some x) : (n, x) ∈ σ := by
  unfold look at h
  obtain ⟨p, hp, rfl⟩ := Option.map_eq_some_iff.1 h
  have h1 := List.mem_of_find?_eq_some hp
  have h2 := List.find?_some hp
  have h3 := of_decide_eq_true h2
  subst h3
  exact h1
end G
theorem Dm_at (σ : G.Sco) (n : ByteArray) (z : Value) : (Dm σ).atKey (.string (slt n)) (.held z) = .held (match G.look σ n with | some x => x.val | none => z) := by
  induction σ with
  | nil => rfl
  | cons p σ ih =>
    obtain ⟨m, x⟩ := p
    show ((Dm σ).put _ _).atKey _ _ = _
    by_cases e : m = n
    · subst e
      rw [atKey_put_same (Dm_tidy σ).isMap (keyLit _), G.look_same]
    · rw [atKey_put_other (by intro h; injection h with h; exact e (slt_inj h).symm), ih, G.look_other x σ e]
theorem Dm_has (σ : G.Sco) (n : ByteArray) : Maps.has (Dm σ) (.string (slt n)) = (G.look σ n).isSome := by
  induction σ with
  | nil => rfl
  | cons p σ ih =>
    obtain ⟨m, x⟩ := p
    show Maps.has ((Dm σ).put _ _) _ = _
    by_cases e : m = n
    · subst e
      rw [has_put_same (Dm_tidy σ).isMap (keyLit _), G.look_same]; rfl
    · rw [has_put_other (by intro h; injection h with h; exact e (slt_inj h).symm), ih, G.look_other x σ e]
/-- the zero type as a value -/
abbrev zval : Value := .agg #[.int .i64 0, .int .i64 0, .int .i64 0, .int .i64 0, .string ⟨#[]⟩, .slice none 0 0, .slice none 0 0]
theorem zeroType (w : World) : (zeroValue 26).run Tryz.prog w = .ok zval w := by kernel_rfl
/-- 'm[k]' at elements that read as themselves -/
theorem wpList_lookup_held {P : Program} (w : World) {ops : Array Oper} {rest : List Oper} {o : Oper} {a : Act} {Q : Exit → Act → World → Prop}
    (hg : o.guard = none) (m x : Operand) (t : TypeId) (hop : o.op = Op.lookup t m x false)
    (k e : TypeId) (K : Keyed P k) (ht : P.underlying t = some (.map k e)) (z : Value) (hz : (zeroValue e).run P w = .ok z w) (b n : Nat) (D : DataW Value)
    (hm : a.eval m = .map (some b)) (hown : w.ownsMap P k rh b n D) (key : Value) (kl : Lit) (hx : a.eval x = key) (hkey : keyOf P k key = some kl)
    (v : Value) (hat : D.atKey kl (.held z) = .held v) (hK : wpList P ops Q rest (a.put o.dst v) w) :
    wpList P ops Q (o :: rest) a w := by
  refine wpList_plain hg fun K' hK' => ?_
  obtain ⟨v', ps, hrun, hv⟩ := hown.lookup K ht hz (zd := .held z) (zp := []) rfl hkey
  obtain rfl : v = v' := by
    unfold rh at hv
    have h1 := (Prod.mk.inj (Option.some.inj hv)).1
    have := hat.symm.trans h1.symm
    injection this
  unfold Oper.wp
  simp [execOp, hop, hm, hx, hrun, Result.andThen]
  exact hK' _ _ hK
/-- 'v, ok := m[k]' at elements that read as themselves -/
theorem wpList_lookup_held_ok {P : Program} (w : World) {ops : Array Oper} {rest : List Oper} {o : Oper} {a : Act} {Q : Exit → Act → World → Prop}
    (hg : o.guard = none) (m x : Operand) (t : TypeId) (hop : o.op = Op.lookup t m x true)
    (k e : TypeId) (K : Keyed P k) (ht : P.underlying t = some (.map k e)) (z : Value) (hz : (zeroValue e).run P w = .ok z w) (b n : Nat) (D : DataW Value)
    (hm : a.eval m = .map (some b)) (hown : w.ownsMap P k rh b n D) (key : Value) (kl : Lit) (hx : a.eval x = key) (hkey : keyOf P k key = some kl)
    (v : Value) (hat : D.atKey kl (.held z) = .held v) (ok : Bool) (hok : Maps.has D kl = ok) (hK : wpList P ops Q rest (a.put o.dst (.tuple #[v, .bool ok])) w) :
    wpList P ops Q (o :: rest) a w := by
  refine wpList_plain hg fun K' hK' => ?_
  obtain ⟨v', ps, hrun, hv⟩ := hown.look_ok K ht hz (zd := .held z) (zp := []) rfl hkey
  obtain rfl : v = v' := by
    unfold rh at hv
    have h1 := (Prod.mk.inj (Option.some.inj hv)).1
    have := hat.symm.trans h1.symm
    injection this
  rw [hok] at hrun
  unfold Oper.wp
  simp [execOp, hop, hm, hx, hrun, Result.andThen]
  exact hK' _ _ hK
/-- the scope in a world -/
structure Sc (w : World) (M : Nat) (σ : G.Sco) : Prop where
  map : w.ownsMap Tryz.prog 9 rh M σ.length (Dm σ)
  all : ∀ p ∈ σ, G.In w w.heap.size p.2 ∧ Sm p.2
theorem Sc.below {w w' : World} {M : Nat} {σ : G.Sco} (h : Sc w M σ) (hb : Below w.heap.size w w') : Sc w' M σ :=
  ⟨h.map.kept (row := none) (grown_of_below hb none) (by simp), fun p hp => ⟨(h.all p hp).1.at hb, (h.all p hp).2⟩⟩
theorem Sc.lt {w : World} {M : Nat} {σ : G.Sco} (h : Sc w M σ) : M < w.heap.size := h.map.lt
theorem Sc.fit {w : World} {M : Nat} {σ : G.Sco} {n : ByteArray} {x : G} (h : Sc w M σ) (hl : G.look σ n = some x) : G.In w w.heap.size x ∧ Sm x := h.all _ (G.look_mem hl)
theorem G.rb_repl {σ : G.Sco} {e : G} (h : e.kd ≠ 4) : e.rb (G.repl σ) = G.repl σ e := by rw [G.repl_eq, if_neg h]; rfl
/-- the contract of replaced -/
def RpE (σ : G.Sco) (M : Nat) (e : G) : Prop := ∀ w : World, Sc w M σ → G.In w w.heap.size e → Sm e → e.any (G.unk σ) = false →
    Calls Tryz.prog 60 #[.map (some M), e.val] w (NewT (G.repl σ e) w)
set_option maxRecDepth 100000 in
set_option maxHeartbeats 1000000 in
theorem replaced_any (σ : G.Sco) (M : Nat) (e : G) : RpE σ M e := by
  induction e using G.ind with
  | h e ih =>
  intro w hS hin hs hu
  have X := AnZ.start w e 26 26
  have hk4 : Hid (e.kd = 4 → ∃ x, G.look σ e.nm = some x ∧ G.repl σ e = x.bare) := Lib.hid (fun h => by
    have h1 := G.any_self hu
    unfold G.unk at h1
    rw [h] at h1
    cases hl : G.look σ e.nm with
    | none => rw [hl] at h1; simp at h1
    | some x => exact ⟨x, rfl, by rw [G.repl_eq, if_pos h, hl]; rfl⟩)
  have C1 := Lib.hid (fun W (i : AnZ w W e) => rebuilt_replaced M (J := fun W => Sc W M σ) (Y := G.repl σ) (fun _ _ h hb => h.below hb) e (fun k hk W hSk hkin => ih k hk W hSk hkin (by
    obtain ⟨j, hj, rfl⟩ := List.mem_iff_getElem.1 hk
    exact hs.kid ⟨hj, rfl⟩) (G.any_kid hu hk)) W (hS.below i.bel) (hin.at i.bel) hs)
  have hnm := hin.nd.nm
  clear ih hu
  by_cases h4 : e.kd = 4
  · obtain ⟨x, hl, hrx⟩ := hk4.out h4
    have hkey : keyOf Tryz.prog 9 (.string e.nm) = some (.string (slt e.nm)) := WideMaps.keyOf_string_mk Tryz.underlying9 hnm
    have hat := Dm_at σ e.nm zval
    rw [hl] at hat
    have hat2 : (Dm σ).atKey (.string (slt e.nm)) (.held zval) = .held x.val := hat
    have HR := Lib.hid hrx
    have HC := Lib.hid (fun W (i : AnZ w W e) => copied_any x W ((hS.below i.bel).fit hl).1 (hS.fit hl).2)
    have HM := Lib.hid (fun W (i : AnZ w W e) => (hS.below i.bel).map)
    have q4 : (e.kd == 4) = true := by rw [h4]; rfl
    clear hl hrx hat C1 hk4 h4
    go_enter Tryz.func60, Tryz.ntmps60
    go_upto_region 1 with (fail)
    revert X
    generalize (w.alloc (.cells #[.int .i64 e.kd, .int .i64 e.lo, .int .i64 e.hi, .int .i64 e.sz, .string e.nm, .slice e.na e.ns.length e.nc, .slice e.ad e.ks.length e.cap] 26)).alloc (.cells zbox 26) = w1
    intro X
    obtain ⟨k0, k1, k2, k3, k4, k5, k6⟩ := box_cells X.be
    have hmap := HM.out _ X
    go_wp2_with (at_lookup; refine wpList_lookup_held _ rfl _ _ 78 rfl 9 26 lawStr Tryz.underlying78 zval (zeroType _) M σ.length _ rfl hmap _ _ rfl hkey x.val hat2 ?_)
    refine (HC.out _ X).mono ?_
    rintro r w2 ⟨y, rfl, hy, hyb, b2⟩
    have HO := Lib.hid (X.out b2 hy)
    have X2 := X.below b2
    obtain ⟨z0, z1, z2, z3, z4, z5, z6⟩ := box_zero X2.br
    have f0 := X2.br.fr 0
    have f1 := X2.br.fr 1
    have f2 := X2.br.fr 2
    have f3 := X2.br.fr 3
    have f4 := X2.br.fr 4
    have f5 := X2.br.fr 5
    have f6 := X2.br.fr 6
    have HP := Lib.hid (box_cells (e := y) (seven_put X2.br (.int .i64 y.kd) (.int .i64 y.lo) (.int .i64 y.hi) (.int .i64 y.sz) (.string y.nm) (.slice y.na y.ns.length y.nc) (.slice y.ad y.ks.length y.cap)))
    go_wp2_with fail
    obtain ⟨r0, r1, r2, r3, r4, r5, r6⟩ := HP.out
    refine bodyPost_ret (v := y.val) (by simp [results, Tryz.results60, go_sem, r0, r1, r2, r3, r4, r5, r6]) rfl ⟨y, rfl, (HO.out).1, by rw [hyb, HR.out], (HO.out).2⟩
  · have HR := Lib.hid (G.rb_repl (σ := σ) h4)
    have q4 : (e.kd == 4) = false := by simpa using h4
    clear hk4 h4
    go_enter Tryz.func60, Tryz.ntmps60
    go_upto_region 1 with (fail)
    revert X
    generalize (w.alloc (.cells #[.int .i64 e.kd, .int .i64 e.lo, .int .i64 e.hi, .int .i64 e.sz, .string e.nm, .slice e.na e.ns.length e.nc, .slice e.ad e.ks.length e.cap] 26)).alloc (.cells zbox 26) = w1
    intro X
    obtain ⟨k0, k1, k2, k3, k4, k5, k6⟩ := box_cells X.be
    go_wp2_with fail
    refine (C1.out _ X).mono ?_
    rintro r w2 ⟨y, rfl, hy, hyb, b2⟩
    have HO := Lib.hid (X.out b2 hy)
    have X2 := X.below b2
    obtain ⟨z0, z1, z2, z3, z4, z5, z6⟩ := box_zero X2.br
    have f0 := X2.br.fr 0
    have f1 := X2.br.fr 1
    have f2 := X2.br.fr 2
    have f3 := X2.br.fr 3
    have f4 := X2.br.fr 4
    have f5 := X2.br.fr 5
    have f6 := X2.br.fr 6
    have HP := Lib.hid (box_cells (e := y) (seven_put X2.br (.int .i64 y.kd) (.int .i64 y.lo) (.int .i64 y.hi) (.int .i64 y.sz) (.string y.nm) (.slice y.na y.ns.length y.nc) (.slice y.ad y.ks.length y.cap)))
    go_wp2_with fail
    obtain ⟨r0, r1, r2, r3, r4, r5, r6⟩ := HP.out
    refine bodyPost_ret (v := y.val) (by simp [results, Tryz.results60, go_sem, r0, r1, r2, r3, r4, r5, r6]) rfl ⟨y, rfl, (HO.out).1, by rw [hyb, HR.out], (HO.out).2⟩
/-- the scope, and the box with its map -/
def ScJ (M b : Nat) (σ : G.Sco) (w : World) : Prop := Sc w M σ ∧ One w b (.map (some M))
set_option maxRecDepth 100000 in
set_option maxHeartbeats 1000000 in
theorem unk1_any (σ : G.Sco) (M b : Nat) (e : G) (w : World) (hJ : ScJ M b σ w) (hin : G.In w w.heap.size e) :
    Calls Tryz.prog 59 #[e.val, .pointer (some ⟨b, 0, none⟩)] w fun r w' => r = .returned (.bool (G.unk σ e)) ∧ Below w.heap.size w w' := by
  obtain ⟨hS, hb⟩ := hJ
  have X := Eb.start w e 26
  have hkey : keyOf Tryz.prog 9 (.string e.nm) = some (.string (slt e.nm)) := WideMaps.keyOf_string_mk Tryz.underlying9 hin.nd.nm
  obtain ⟨v, hv⟩ : ∃ v : G, (match G.look σ e.nm with | some x => x.val | none => zval) = v.val := by
    cases G.look σ e.nm with
    | none => exact ⟨G.zero, rfl⟩
    | some x => exact ⟨x, rfl⟩
  have hat := Dm_at σ e.nm zval
  rw [hv] at hat
  have hok := Dm_has σ e.nm
  obtain ⟨ok, hokv⟩ : ∃ ok, Hid ((G.look σ e.nm).isSome = ok) := ⟨_, Lib.hid rfl⟩
  rw [hokv.out] at hok
  have HU : Hid (G.unk σ e = (e.kd == 4 && !ok)) := Lib.hid (by
    unfold G.unk; rw [← hokv.out]; cases G.look σ e.nm <;> rfl)
  have hmap := (hS.below X.bel).map
  have cb := (hb.alloc (.cells e.box 26)).c
  have b1 := X.bel
  clear hv hokv hS hb hin
  cases q4 : (e.kd == 4) with
  | true =>
    have HR : Hid (Value.bool (!ok) = .bool (G.unk σ e)) := Lib.hid (by rw [HU.out, q4]; rfl)
    clear HU
    go_enter Tryz.func59, Tryz.ntmps59
    go_wp2_with (at_lookup; refine wpList_lookup_held_ok _ rfl _ _ 78 rfl 9 26 lawStr Tryz.underlying78 zval (zeroType _) M σ.length _ rfl hmap _ _ rfl hkey v.val hat ok hok ?_)
    go_ret
    exact ⟨congrArg Ending.returned HR.out, b1.alloc b1.size _⟩
  | false =>
    have HR : Hid (Value.bool false = .bool (G.unk σ e)) := Lib.hid (by rw [HU.out, q4]; rfl)
    clear HU
    go_enter Tryz.func59, Tryz.ntmps59
    go_wp2_with (at_lookup; refine wpList_lookup_held_ok _ rfl _ _ 78 rfl 9 26 lawStr Tryz.underlying78 zval (zeroType _) M σ.length _ rfl hmap _ _ rfl hkey v.val hat ok hok ?_)
    go_ret
    exact ⟨congrArg Ending.returned HR.out, b1.alloc b1.size _⟩
theorem hp_unk (σ : G.Sco) (M b : Nat) : Hp 59 #[.pointer (some ⟨b, 0, none⟩)] (G.unk σ) (ScJ M b σ) :=
  ⟨fun k w hJ hin => unk1_any σ M b k w hJ hin, fun w w' h hb => ⟨h.1.below hb, h.2.below hb h.2.lt⟩⟩
end Go.Proofs.YtlifnabeilnblaaGreatDoor
