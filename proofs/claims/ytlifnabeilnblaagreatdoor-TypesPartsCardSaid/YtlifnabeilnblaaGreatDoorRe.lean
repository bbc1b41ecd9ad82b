/- Walks: the laws' test of few parts. -/
import Derived.Test.YtlifnabeilnblaaGreatDoorRf
import Derived.Test.YtlifnabeilnblaaGreatDoorEq
import Derived.Test.YtlifnabeilnblaaGreatDoorFx
namespace Go.Proofs.YtlifnabeilnblaaGreatDoor
open Go.RowKit Go.Sort
set_option linter.unusedVariables false

namespace G
mutual
/-- what is left of a number -/
def lf : G → Int → Int | .mk _ _ _ _ _ _ _ ns _ _ ks, x => lfL ks (x - (1 + min (ns.length : Int) (x + 1)))
def lfL : List G → Int → Int | [], x => x | e :: l, x => if 0 ≤ x then lfL l (lf e x) else x
end
theorem lf_eq (e : G) (x : Int) : e.lf x = lfL e.ks (x - (1 + min (e.ns.length : Int) (x + 1))) := by cases e; simp [lf, ks, ns]
theorem lfL_neg {l : List G} {x : Int} (h : x < 0) : lfL l x = x := by
  cases l with
  | nil => simp [lfL]
  | cons e l => simp only [lfL]; rw [if_neg (by omega)]
theorem lfL_pos {a : G} {l : List G} {x : Int} (h : 0 ≤ x) : lfL (a :: l) x = lfL l (a.lf x) := by simp only [lfL]; rw [if_pos h]
theorem lfL_snoc (l : List G) (e : G) (x : Int) : lfL (l ++ [e]) x = if 0 ≤ lfL l x then e.lf (lfL l x) else lfL l x := by
  induction l generalizing x with
  | nil =>
    by_cases h : 0 ≤ x
    · rw [List.nil_append, lfL_pos h]; simp [lfL, h]
    · rw [List.nil_append, lfL_neg (by omega)]; simp [lfL, h]
  | cons a l ih =>
    rw [List.cons_append]
    by_cases h : 0 ≤ x
    · rw [lfL_pos h, lfL_pos h, ih]
    · rw [lfL_neg (by omega), lfL_neg (by omega), if_neg h]
theorem lfL_app (a b : List G) (x : Int) : lfL (a ++ b) x = lfL b (lfL a x) := by
  induction a generalizing x with
  | nil => simp [lfL]
  | cons c a ih =>
    rw [List.cons_append]
    by_cases h : 0 ≤ x
    · rw [lfL_pos h, lfL_pos h, ih]
    · have hx : x < 0 := by omega
      rw [lfL_neg hx, lfL_neg hx, lfL_neg hx]
theorem lfL_stop {l : List G} {i : Nat} {x : Int} (h : lfL (l.take i) x < 0) : lfL l x = lfL (l.take i) x := by
  conv => lhs; rw [← List.take_append_drop i l, lfL_app]
  exact lfL_neg h
theorem lf_bd (e : G) : ∀ x, 0 ≤ x → -2 ≤ e.lf x ∧ e.lf x ≤ x - 1 ∧ (0 ≤ e.lf x → (e.nodes : Int) + e.lf x ≤ x) := by
  induction e using G.ind with
  | h e ih =>
    have key : ∀ l : List G, (∀ k ∈ l, ∀ x, 0 ≤ x → -2 ≤ k.lf x ∧ k.lf x ≤ x - 1 ∧ (0 ≤ k.lf x → (k.nodes : Int) + k.lf x ≤ x)) → ∀ x, -2 ≤ x → -2 ≤ lfL l x ∧ lfL l x ≤ x ∧ (0 ≤ lfL l x → (nodesL l : Int) + lfL l x ≤ x) := by
      intro l
      induction l with
      | nil => intro _ x hx; simp [lfL, nodesL]; exact hx
      | cons a l ihl =>
        intro hh x hx
        by_cases h : 0 ≤ x
        · rw [lfL_pos h]
          have h1 := hh a (by simp) x h
          have h2 := ihl (fun k hk => hh k (by simp [hk])) (a.lf x) h1.1
          simp only [nodesL]
          refine ⟨h2.1, by omega, fun h3 => ?_⟩
          have h4 := h2.2.2 h3
          have h5 := h1.2.2 (by omega)
          omega
        · rw [lfL_neg (by omega)]
          exact ⟨hx, Int.le_refl _, fun h3 => absurd h3 h⟩
    intro x hx
    rw [lf_eq]
    have hq : 0 ≤ min (e.ns.length : Int) (x + 1) ∧ min (e.ns.length : Int) (x + 1) ≤ x + 1 := by omega
    generalize min (e.ns.length : Int) (x + 1) = q at hq
    have h1 := key e.ks ih (x - (1 + q)) (by omega)
    refine ⟨h1.1, by omega, fun h3 => ?_⟩
    have h4 := h1.2.2 h3
    rw [nodes_eq]
    omega
end G
/-- the contract of left -/
def LfE (e : G) : Prop := ∀ (x : Int) (w : World), G.In w w.heap.size e → 0 ≤ x → x ≤ 200 →
    Calls Tryz.prog 18 #[e.val, .int .i64 x] w fun r w' => r = .returned (.int .i64 (e.lf x)) ∧ Below w.heap.size w w'
theorem lmin2 (a b n : Int) (h : n = min a b) (ts : Array TypeId) (t : TypeId) (W : World) : (Builtin.min_ ts t #[.int .i64 a, .int .i64 b]).run Tryz.prog W = .ok (.int .i64 n) W := by
  have e : ∀ x y : Int, (if y < x then y else x) = min x y := fun x y => by split <;> omega
  simp [Builtin.min_, Builtin.min2, List.foldlM, e, go_sem, h]
set_option maxRecDepth 100000 in
set_option maxHeartbeats 1000000 in
theorem left_any (e : G) : LfE e := by
  induction e using G.ind with
  | h e ih =>
  intro x w hin h0 hx
  have IH := Lib.hid ih
  have hl := hin.l
  have hlen := hin.nd.len
  have hnlen := hin.nd.nlen
  obtain ⟨q, hq⟩ : ∃ q : Int, q = min ((e.ns.length : Nat) : Int) (x + 1) := ⟨_, rfl⟩
  have hqb : 0 ≤ q ∧ q ≤ x + 1 := by rw [hq]; omega
  have hmn := fun ts t W => lmin2 ((e.ns.length : Nat) : Int) (x + 1) q hq ts t W
  have HF : Hid (e.lf x = G.lfL e.ks (x - (1 + q))) := Lib.hid (by rw [G.lf_eq, hq])
  have X := Eb.start w e 26
  clear ih hq
  obtain ⟨A, hA⟩ : ∃ A, Hid (e.ad = A) := ⟨_, Lib.hid rfl⟩
  rw [hA.out] at hl
  obtain ⟨y, hy⟩ : ∃ y, Hid (x - (1 + q) = y) := ⟨_, Lib.hid rfl⟩
  have hyb : -2 ≤ y ∧ y ≤ 199 := by rw [← hy.out]; omega
  rw [hy.out] at HF
  have hw0 : IntKind.i64.wrap (x + 1) = x + 1 := IntWalk.i64_in _ (by omega)
  have hw1 : IntKind.i64.wrap (1 + q) = 1 + q := IntWalk.i64_in _ (by omega)
  have hw2 : IntKind.i64.wrap (x - (1 + q)) = y := by rw [hy.out]; exact IntWalk.i64_in _ (by omega)
  go_enter Tryz.func18, Tryz.ntmps18
  go_wp2_with fail
  go_loopw [1, 5] (fun lv iv wr => ∃ (i : Nat) (z : Int), i ≤ e.ks.length ∧ iv = .int .i64 i ∧ lv = .int .i64 z ∧ Hid (z = G.lfL (e.ks.take i) y) ∧ -2 ≤ z ∧ z ≤ 199 ∧ Eb w wr e) (fun _ iv _ => e.ks.length - (intOf iv).toNat)
  case atStart => exact ⟨0, y, Nat.zero_le _, rfl, rfl, Lib.hid (by simp [G.lfL]), by omega, by omega, X⟩
  case round =>
    clear hw0 hw1 hw2 hmn X
    obtain ⟨i, z, hi, rfl, rfl, hz, hz1, hz2, Y⟩ := hrel
    have c6 := Y.c6
    rw [hA.out] at c6
    by_cases hzn : 0 ≤ z
    · by_cases hlt : i < e.ks.length
      · obtain ⟨ab, off, k, rfl, hab, ⟨d0, d1, d2, d3, d4, d5, d6⟩, his, hkin⟩ := (hl.below Y.bel).at_ hlt
        have HI := Lib.hid (IH.out k his.mem)
        have hk2 := Y.kid hkin
        have HN : Hid (k.lf z = G.lfL (e.ks.take (i + 1)) y) := Lib.hid (by rw [his.take, G.lfL_snoc, ← hz.out, if_pos hzn])
        have hle := G.lf_bd k z hzn
        clear hkin
        go_wp2_with fail
        refine (HI.out z _ hk2 hzn (by omega)).mono ?_
        rintro r w2 ⟨rfl, b2⟩
        obtain ⟨v, hv⟩ : ∃ v, Hid (k.lf z = v) := ⟨_, Lib.hid rfl⟩
        rw [hv.out] at hle HN ⊢
        have hlo : -2 ≤ v ∧ v ≤ 199 := by omega
        clear hle
        have Y2 := Y.below b2
        go_wp2_with fail
        go_roundw
        case rel => exact ⟨i + 1, v, by omega, by go_num, rfl, HN, hlo.1, hlo.2, Y2⟩
        case measure => simp [intOf]; omega
      · obtain rfl : i = e.ks.length := by omega
        have HR : Hid (z = e.lf x) := Lib.hid (by rw [HF.out, hz.out, List.take_length])
        have b2 := Y.bel
        clear HF
        go_wp2_with fail
        go_ret
        exact ⟨ret_int HR.out, b2⟩
    · have HR : Hid (z = e.lf x) := Lib.hid (by rw [HF.out, hz.out]; exact (G.lfL_stop (by rw [← hz.out]; omega)).symm)
      have b2 := Y.bel
      clear HF
      by_cases hlt : i < e.ks.length
      all_goals
        go_wp2_with fail
        go_ret
        exact ⟨ret_int HR.out, b2⟩
/-- few nodes and names -/
def fewB (e : G) : Bool := decide (0 ≤ e.lf 200)
set_option maxRecDepth 100000 in
theorem few_any (e : G) (w : World) (hin : G.In w w.heap.size e) : Calls Tryz.prog 6 #[e.val] w fun r w' => r = .returned (.bool (fewB e)) ∧ Below w.heap.size w w' := by
  obtain ⟨z, hz⟩ : ∃ z, Hid (e.lf 200 = z) := ⟨_, Lib.hid rfl⟩
  have HR : Hid (decide (0 ≤ z) = fewB e) := Lib.hid (by unfold fewB; rw [hz.out])
  go_enter Tryz.func6, Tryz.ntmps6
  go_wp2_with fail
  refine (left_any e 200 _ (hin.at (al1 _ _)) (by decide) (by decide)).mono ?_
  rintro r w1 ⟨rfl, b1⟩
  rw [hz.out]
  go_wp2_with fail
  go_ret
  exact ⟨ret_bool HR.out, bTrans (al1 _ _) b1⟩
theorem few_nodes {e : G} (h : fewB e = true) : e.nodes ≤ 1000000 := by
  have h1 := of_decide_eq_true h
  have := (G.lf_bd e 200 (by decide)).2.2 h1
  omega
end Go.Proofs.YtlifnabeilnblaaGreatDoor
/- Walks: EqualType of the reference. -/
namespace Go.Proofs.YtlifnabeilnblaaGreatDoor
open Go.RowKit Go.Sort
set_option linter.unusedVariables false

/-- the contract of the reference's Equal -/
def ReE (e : G) : Prop := ∀ (f : G) (w : World), G.In w w.heap.size e → G.In w w.heap.size f → Calls Tryz.prog 9 #[e.val, f.val] w fun r w' => r = .returned (.bool (G.eqB e f)) ∧ Below w.heap.size w w'
set_option maxRecDepth 100000 in
set_option maxHeartbeats 4000000 in
theorem requal_any (e : G) : ReE e := by
  induction e using G.ind with
  | h e ih =>
  intro f w he hf
  have IH := Lib.hid ih
  have X := QW.start w e f 26 26
  have HE := Lib.hid (G.eqB_eq e f)
  have hnd := Lib.hid he.nd
  have hnd' := Lib.hid hf.nd
  have hl := Lib.hid he.l
  have hl' := Lib.hid hf.l
  have b0 := he.nd.nlen
  have b1 := hf.nd.nlen
  have b2 := he.nd.len
  have b3 := hf.nd.len
  clear ih he hf
  have hst := str_eq (s := e.nm) (t := f.nm)
  obtain ⟨z, hz⟩ : ∃ z, Hid (G.eqB e f = z) := ⟨_, Lib.hid rfl⟩
  rw [hz.out] at HE ⊢
  clear hz
  go_enter Tryz.func9, Tryz.ntmps9
  go_upto_region 1 with (fail)
  revert X
  generalize (w.alloc (.cells #[.int .i64 e.kd, .int .i64 e.lo, .int .i64 e.hi, .int .i64 e.sz, .string e.nm, .slice e.na e.ns.length e.nc, .slice e.ad e.ks.length e.cap] 26)).alloc (.cells #[.int .i64 f.kd, .int .i64 f.lo, .int .i64 f.hi, .int .i64 f.sz, .string f.nm, .slice f.na f.ns.length f.nc, .slice f.ad f.ks.length f.cap] 26) = w1
  intro X
  obtain ⟨k0, k1, k2, k3, k4, k5, k6⟩ := bx7 X.be
  obtain ⟨m0, m1, m2, m3, m4, m5, m6⟩ := bx7 X.bf
  have bb := X.bel
  by_cases g0 : e.kd = f.kd
  case neg =>
    have q0 : (e.kd != f.kd) = true := by rw [bne_iff_ne]; exact g0
    have HR : Hid (false = z) := Lib.hid (by rw [HE.out, show (e.kd == f.kd) = false by simpa using g0]; rfl)
    clear HE g0
    go_wp2_with fail
    go_ret
    exact ⟨ret_bool HR.out, bb⟩
  have q0 : (e.kd != f.kd) = false := by rw [g0]; simp
  have p0 : (e.kd == f.kd) = true := by rw [g0]; simp
  clear g0
  by_cases g1 : e.lo = f.lo
  case neg =>
    have q1 : (e.lo != f.lo) = true := by rw [bne_iff_ne]; exact g1
    have HR : Hid (false = z) := Lib.hid (by rw [HE.out, p0, show (e.lo == f.lo) = false by simpa using g1]; rfl)
    clear HE g1
    go_wp2_with fail
    go_ret
    exact ⟨ret_bool HR.out, bb⟩
  have q1 : (e.lo != f.lo) = false := by rw [g1]; simp
  have p1 : (e.lo == f.lo) = true := by rw [g1]; simp
  clear g1
  by_cases g2 : e.hi = f.hi
  case neg =>
    have q2 : (e.hi != f.hi) = true := by rw [bne_iff_ne]; exact g2
    have HR : Hid (false = z) := Lib.hid (by rw [HE.out, p0, p1, show (e.hi == f.hi) = false by simpa using g2]; rfl)
    clear HE g2
    go_wp2_with fail
    go_ret
    exact ⟨ret_bool HR.out, bb⟩
  have q2 : (e.hi != f.hi) = false := by rw [g2]; simp
  have p2 : (e.hi == f.hi) = true := by rw [g2]; simp
  clear g2
  by_cases g3 : e.sz = f.sz
  case neg =>
    have q3 : (e.sz != f.sz) = true := by rw [bne_iff_ne]; exact g3
    have HR : Hid (false = z) := Lib.hid (by rw [HE.out, p0, p1, p2, show (e.sz == f.sz) = false by simpa using g3]; rfl)
    clear HE g3
    go_wp2_with fail
    go_ret
    exact ⟨ret_bool HR.out, bb⟩
  have q3 : (e.sz != f.sz) = false := by rw [g3]; simp
  have p3 : (e.sz == f.sz) = true := by rw [g3]; simp
  clear g3
  by_cases g4 : e.nm = f.nm
  case neg =>
    have HR : Hid (false = z) := Lib.hid (by rw [HE.out, p0, p1, p2, p3, decide_eq_false g4]; rfl)
    rw [decide_eq_false g4] at hst
    clear HE g4
    go_wp2_with fail
    go_ret
    exact ⟨ret_bool HR.out, bb⟩
  have HE1 : Hid (z = (decide (e.ns = f.ns) && G.eqL e.ks f.ks)) := Lib.hid (by rw [HE.out, p0, p1, p2, p3, decide_eq_true g4]; rfl)
  rw [decide_eq_true g4] at hst
  clear HE g4 p0 p1 p2 p3
  by_cases g5 : e.ns.length = f.ns.length
  case neg =>
    have q5 : (((e.ns.length : Nat) : Int) != ((f.ns.length : Nat) : Int)) = true := by rw [bne_iff_ne]; omega
    have HR : Hid (false = z) := Lib.hid (by rw [HE1.out, decide_eq_false (fun h => g5 (by rw [h]))]; rfl)
    clear HE1 g5
    go_wp2_with fail
    go_ret
    exact ⟨ret_bool HR.out, bb⟩
  have q5 : (((e.ns.length : Nat) : Int) != ((f.ns.length : Nat) : Int)) = false := by rw [g5]; simp
  by_cases g6 : e.ks.length = f.ks.length
  case neg =>
    have q6 : (((e.ks.length : Nat) : Int) != ((f.ks.length : Nat) : Int)) = true := by rw [bne_iff_ne]; omega
    have HR : Hid (false = z) := Lib.hid (by rw [HE1.out, show G.eqL e.ks f.ks = false by rw [Bool.eq_false_iff]; intro h; exact g6 (G.eqL_len h)]; simp)
    clear HE1 g5 g6
    go_wp2_with fail
    go_ret
    exact ⟨ret_bool HR.out, bb⟩
  have q6 : (((e.ks.length : Nat) : Int) != ((f.ks.length : Nat) : Int)) = false := by rw [g6]; simp
  obtain ⟨n, hn⟩ : ∃ n, Hid (e.ns.length = n) := ⟨_, Lib.hid rfl⟩
  have hn' : Hid (f.ns.length = n) := Lib.hid (by rw [← hn.out, g5])
  obtain ⟨m, hm⟩ : ∃ m, Hid (e.ks.length = m) := ⟨_, Lib.hid rfl⟩
  have hm' : Hid (f.ks.length = m) := Lib.hid (by rw [← hm.out, g6])
  obtain ⟨D, hD⟩ : ∃ D, Hid (e.na = D) := ⟨_, Lib.hid rfl⟩
  obtain ⟨D', hD'⟩ : ∃ D', Hid (f.na = D') := ⟨_, Lib.hid rfl⟩
  obtain ⟨A, hA⟩ : ∃ A, Hid (e.ad = A) := ⟨_, Lib.hid rfl⟩
  obtain ⟨A', hA'⟩ : ∃ A', Hid (f.ad = A') := ⟨_, Lib.hid rfl⟩
  have C5 := Lib.hid (fun W (i : QW w W e f) => show W.cell? ⟨w.heap.size, 5, none⟩ = some (.slice D n e.nc) by have := (bx7 i.be).2.2.2.2.2.1; rwa [hn.out, hD.out] at this)
  have F5 := Lib.hid (fun W (i : QW w W e f) => show W.cell? ⟨w.heap.size + 1, 5, none⟩ = some (.slice D' n f.nc) by have := (bx7 i.bf).2.2.2.2.2.1; rwa [hn'.out, hD'.out] at this)
  have C6 := Lib.hid (fun W (i : QW w W e f) => show W.cell? ⟨w.heap.size, 6, none⟩ = some (.slice A m e.cap) by have := (bx7 i.be).2.2.2.2.2.2; rwa [hm.out, hA.out] at this)
  have F6 := Lib.hid (fun W (i : QW w W e f) => show W.cell? ⟨w.heap.size + 1, 6, none⟩ = some (.slice A' m f.cap) by have := (bx7 i.bf).2.2.2.2.2.2; rwa [hm'.out, hA'.out] at this)
  have hl2 : Hid (∀ W, QW w W e f → G.L W w.heap.size A e.ks) := Lib.hid (fun W i => by have := hl.out.below i.bel; rwa [hA.out] at this)
  have hl3 : Hid (∀ W, QW w W e f → G.L W w.heap.size A' f.ks) := Lib.hid (fun W i => by have := hl'.out.below i.bel; rwa [hA'.out] at this)
  have bn : n ≤ 9223372036854775807 := by rw [← hn.out]; exact b0
  have bm : m ≤ 9223372036854775807 := by rw [← hm.out]; exact b2
  clear g5 g6 b0 b1 b2 b3
  go_wp2_with fail
  clear k0 k1 k2 k3 k4 k5 k6 m0 m1 m2 m3 m4 m5 m6 q0 q1 q2 q3 q5 q6 hst bb
  go_loopw [5] (fun iv wr => ∃ i : Nat, i ≤ n ∧ iv = .int .i64 i ∧ Hid (∀ k, k < i → ∀ (h1 : k < e.ns.length) (h2 : k < f.ns.length), e.ns[k] = f.ns[k]) ∧ QW w wr e f) (fun iv _ => n - (intOf iv).toNat)
  case atStart => exact ⟨0, Nat.zero_le _, rfl, Lib.hid (fun k hk => absurd hk (Nat.not_lt_zero _)), X⟩
  case round =>
    clear X
    obtain ⟨i, hi, rfl, hg, Y⟩ := hrel
    have c5 := C5.out _ Y
    have f5 := F5.out _ Y
    have c6 := C6.out _ Y
    have f6 := F6.out _ Y
    have bb := Y.bel
    by_cases hlt : i < n
    · have h1 : i < e.ns.length := by rw [hn.out]; exact hlt
      have h2 : i < f.ns.length := by rw [hn'.out]; exact hlt
      obtain ⟨ab, off, hA2, hab, hc⟩ := (hnd.out.below Y.bel).name_at h1
      obtain rfl : D = some ⟨ab, off, none⟩ := hD.out.symm.trans hA2
      obtain ⟨ab', off', hA3, hab', hc'⟩ := (hnd'.out.below Y.bel).name_at h2
      obtain rfl : D' = some ⟨ab', off', none⟩ := hD'.out.symm.trans hA3
      have HB := Lib.hid (fun (h : e.ns[i] ≠ f.ns[i]) => nsB_bad h1 h2 h)
      have HG := Lib.hid (fun (h : e.ns[i] = f.ns[i]) k (hk : k < i + 1) (h1 : k < e.ns.length) (h2 : k < f.ns.length) => show e.ns[k] = f.ns[k] by
        by_cases hki : k = i
        · subst hki; exact h
        · exact hg.out k (by omega) h1 h2)
      clear hA2 hA3 hg
      revert hc hc' HB HG
      generalize e.ns[i] = s
      generalize f.ns[i] = t
      intro hc hc' HB HG
      clear h1 h2
      have hst := str_eq (s := s) (t := t)
      have Y2 := fun n => Y.below (bDrew (Below.refl wr.heap.size wr) n)
      by_cases hs : s = t
      · have HG2 := Lib.hid (HG.out hs)
        rw [decide_eq_true hs] at hst
        clear hs HB HG
        go_wp2_with fail
        go_quiet (fail)
        go_wp2_with fail
        go_roundw
        case rel => exact ⟨i + 1, by omega, by go_num, HG2, Y2 _⟩
        case measure => simp [intOf]; omega
      · have HR : Hid (false = z) := Lib.hid (by rw [HE1.out, show decide (e.ns = f.ns) = false from HB.out hs]; rfl)
        rw [decide_eq_false hs] at hst
        clear hs HB HG
        go_wp2_with fail
        go_quiet (fail)
        go_wp2_with fail
        go_ret
        exact ⟨ret_bool HR.out, bDrew bb _⟩
    · obtain rfl : i = n := by omega
      have HR : Hid (z = G.eqL e.ks f.ks) := Lib.hid (by rw [HE1.out, show decide (e.ns = f.ns) = true from nsB_good (hn.out.trans hn'.out.symm) fun k hk h1 h2 => hg.out k (by rw [← hn.out]; exact hk) h1 h2]; rfl)
      clear hg HE1
      go_wp2_with fail
      clear c5 f5 c6 f6 bb
      go_loopw [6] (fun iv wr => ∃ i : Nat, i ≤ m ∧ iv = .int .i64 i ∧ Hid (∀ k, k < i → ∀ a, G.Is e.ks k a → ∀ b, G.Is f.ks k b → G.eqB a b = true) ∧ QW w wr e f) (fun iv _ => m - (intOf iv).toNat)
      case atStart => exact ⟨0, Nat.zero_le _, rfl, Lib.hid (fun k hk => absurd hk (Nat.not_lt_zero _)), Y⟩
      case round =>
        clear Y
        obtain ⟨j, hj, rfl, hg, Y⟩ := hrel
        have c6 := C6.out _ Y
        have f6 := F6.out _ Y
        have bb := Y.bel
        by_cases hlt : j < m
        · obtain ⟨ab, off, k, rfl, hab, ⟨d0, d1, d2, d3, d4, d5, d6⟩, his, hkin⟩ := (hl2.out _ Y).at_ (show j < e.ks.length by rw [hm.out]; exact hlt)
          obtain ⟨ab', off', k', rfl, hab', ⟨e0, e1, e2, e3, e4, e5, e6⟩, his', hkin'⟩ := (hl3.out _ Y).at_ (show j < f.ks.length by rw [hm'.out]; exact hlt)
          have HC := Lib.hid (show ReE k from IH.out k his.mem)
          have H1 : ∀ d os, G.In (grow (redrawn wr d) os) (grow (redrawn wr d) os).heap.size k := fun d os => (hkin.more Y.bel.size).at (below_regrown wr d os)
          have H2 : ∀ d os, G.In (grow (redrawn wr d) os) (grow (redrawn wr d) os).heap.size k' := fun d os => (hkin'.more Y.bel.size).at (below_regrown wr d os)
          have Y3 := fun d os => Y.below (below_regrown wr d os)
          have c6 := cell_regrown c6
          have f6 := cell_regrown f6
          have d0 := cell_regrown d0
          have d1 := cell_regrown d1
          have d2 := cell_regrown d2
          have d3 := cell_regrown d3
          have d4 := cell_regrown d4
          have d5 := cell_regrown d5
          have d6 := cell_regrown d6
          have e0 := cell_regrown e0
          have e1 := cell_regrown e1
          have e2 := cell_regrown e2
          have e3 := cell_regrown e3
          have e4 := cell_regrown e4
          have e5 := cell_regrown e5
          have e6 := cell_regrown e6
          cases hq : G.eqB k k' with
          | false =>
            have HR2 : Hid (false = z) := Lib.hid (by rw [HR.out, G.eqL_bad his his' hq])
            have Q1 := Lib.hid (show ∀ d os, Calls Tryz.prog 9 #[k.val, k'.val] (grow (redrawn wr d) os) fun r w'' => r = .returned (.bool false) ∧ ∃ p : Regrown, w'' = grow (redrawn wr p.d) p.os from
              fun d os => by rw [← hq]; exact Calls.regrown_of (HC.out k' _ (H1 d os) (H2 d os)))
            clear hq hg HC H1 H2 hkin hkin'
            go_wp2_with fail
            refine wp_region_quiet_below (by kernel_rfl) (by kernel_rfl) ?_
            repeat (quiet_step ((go_at_call 9; exact Q1.out _ _)))
            refine wpQuiet_nil ?_
            intro _ hw'
            obtain ⟨⟨dq, osq⟩, hw''⟩ := hw'
            subst hw''
            go_wp2_with fail
            go_ret
            exact ⟨ret_bool HR2.out, (Y3 dq osq).bel⟩
          | true =>
            have HG := Lib.hid (G.eqL_next hg.out his his' hq)
            have Q1 := Lib.hid (show ∀ d os, Calls Tryz.prog 9 #[k.val, k'.val] (grow (redrawn wr d) os) fun r w'' => r = .returned (.bool true) ∧ ∃ p : Regrown, w'' = grow (redrawn wr p.d) p.os from
              fun d os => by rw [← hq]; exact Calls.regrown_of (HC.out k' _ (H1 d os) (H2 d os)))
            clear hq hg HC H1 H2 hkin hkin'
            go_wp2_with fail
            refine wp_region_quiet_below (by kernel_rfl) (by kernel_rfl) ?_
            repeat (quiet_step ((go_at_call 9; exact Q1.out _ _)))
            refine wpQuiet_nil ?_
            intro _ hw'
            obtain ⟨⟨dq, osq⟩, hw''⟩ := hw'
            subst hw''
            go_wp2_with fail
            go_roundw
            case rel => exact ⟨j + 1, by omega, by go_num, HG, Y3 dq osq⟩
            case measure => simp [intOf]; omega
        · obtain rfl : j = m := by omega
          have HR2 : Hid (true = z) := Lib.hid (by rw [HR.out, G.eqL_good (hm.out.trans hm'.out.symm) fun k hk => hg.out k (by rw [← hm.out]; exact hk)])
          go_wp2_with fail
          go_ret
          exact ⟨ret_bool HR2.out, bb⟩
end Go.Proofs.YtlifnabeilnblaaGreatDoor
