/- Walks: combine on two sets of one size, with whatever function of words; Union, Intersect, Minus. -/
import Derived.Test.YtcicejmahlobhaaDoorBWh
import Derived.StillTailTactics
namespace Go.Proofs.YtcicejmahlobhaaDoor.Bs
open Go.RowKit
set_option linter.unusedVariables false

theorem inter1 (x y : Nat) (hx : x < 2 ^ 64) (hy : y < 2 ^ 64) (w : World) : Calls Tryd.prog 71 #[.int .u64 (x : Int), .int .u64 (y : Int)] w fun e w' => e = .returned (.int .u64 ((x &&& y : Nat) : Int)) ∧ w' = w := by
  have h := u64_and_nat x y hx hy
  go_enter Tryd.func71, Tryd.ntmps71
  go_wp2_with fail
  go_ret
  exact ⟨rfl, rfl⟩
/-- combine's world in the loop -/
structure CbInv (w wr : World) (g : Nat) (x1 y1 x2 y2 : Value) (vs : List Nat) : Prop where
  t1 : Two wr w.heap.size x1 y1
  t2 : Two wr (w.heap.size + 1) x2 y2
  t3 : Two wr (w.heap.size + 2) (.int .i64 0) (.slice none 0 0)
  row : WBlk wr g vs
  hg : w.heap.size + 2 < g
  bel : Below w.heap.size w wr

/-- the same without the new row -/
structure CaInv (w wr : World) (x1 y1 x2 y2 : Value) : Prop where
  t1 : Two wr w.heap.size x1 y1
  t2 : Two wr (w.heap.size + 1) x2 y2
  t3 : Two wr (w.heap.size + 2) (.int .i64 0) (.slice none 0 0)
  bel : Below w.heap.size w wr
theorem CaInv.new_ (w : World) (x1 y1 x2 y2 : Value) (T : TypeId) : CaInv w (((w.alloc (.cells #[x1, y1] T)).alloc (.cells #[x2, y2] T)).alloc (.cells #[.int .i64 0, .slice none 0 0] T)) x1 y1 x2 y2 where
  t1 := ((Two.new_ _ _ _ _).alloc _).alloc _
  t2 := by simpa using (Two.new_ (w.alloc (.cells #[x1, y1] T)) x2 y2 T).alloc _
  t3 := by simpa using Two.new_ ((w.alloc (.cells #[x1, y1] T)).alloc (.cells #[x2, y2] T)) (.int .i64 0) (.slice none 0 0) T
  bel := (((Below.refl _ _).alloc (Nat.le_refl _) _).alloc (by simp) _).alloc (by simp; omega) _
theorem CaInv.below {w wr wx : World} {x1 y1 x2 y2 : Value} (h : CaInv w wr x1 y1 x2 y2) (hb : Below wr.heap.size wr wx) : CaInv w wx x1 y1 x2 y2 :=
  ⟨h.t1.below hb h.t1.lt, h.t2.below hb h.t2.lt, h.t3.below hb h.t3.lt, h.bel.trans (hb.mono h.bel.size)⟩
theorem CbInv.set_ {w wr : World} {g : Nat} {x1 y1 x2 y2 : Value} {vs : List Nat} (h : CbInv w wr g x1 y1 x2 y2 vs) (k x : Nat) : CbInv w (wr.drew.setCell ⟨g, k, none⟩ (.int .u64 (x : Int))) g x1 y1 x2 y2 (vs.set k x) := by
  have := h.hg
  exact ⟨h.t1.drew.far (by simp; omega) _, h.t2.drew.far (by simp; omega) _, h.t3.drew.far (by simp; omega) _, WBlk.set_ h.row.drew _ _, h.hg, h.bel.drew.setCell (by simp; omega) _⟩

theorem bit_and (x y j : Nat) (hx : x < 2 ^ 64) (hy : y < 2 ^ 64) : (x &&& y).testBit j = (decide (j < 64) && (x.testBit j && y.testBit j)) := by
  rw [Nat.testBit_and]
  by_cases h : j < 64
  · simp [h]
  · rw [Kb.testBit_ge hx (by omega)]; simp
theorem cp_end {w wr : World} {g b n m : Nat} {vs : List Nat} {u v : Value} (hr : WBlk wr g vs) (hg : b < g) (hb : Below w.heap.size w wr) (hm : vs.length = m) (hbw : w.heap.size ≤ b) :
    CopyRes n vs w (.returned (.tuple #[setV n (some ⟨g, 0, none⟩) m m, .int .i64 0])) ((wr.setCell ⟨b, 0, none⟩ u).setCell ⟨b, 1, none⟩ v) :=
  ⟨g, by omega, by rw [hm], (hr.far (p := ⟨b, 0, none⟩) (by simp; omega) u).far (p := ⟨b, 1, none⟩) (by simp; omega) v, (hb.setCell (p := ⟨b, 0, none⟩) hbw _).setCell (p := ⟨b, 1, none⟩) hbw _⟩

theorem CopyRes.set {n : Nat} {ws : List Nat} {w w' : World} {e : Ending} (h : CopyRes n ws w e w') (hlt : ∀ x ∈ ws, x < 2 ^ 64) : SetRes n ws w e w' := by
  obtain ⟨g, hg, rfl, hr, hb⟩ := h
  exact ⟨_, _, rfl, hr.words hr.lt hlt, hb⟩

set_option maxRecDepth 100000 in
set_option maxHeartbeats 1000000 in
theorem combine_ok (K : Nat) (g : Nat → Nat → Nat) (op : Bool → Bool → Bool)
    (hE : ∀ (args : Array Value) (W : World), (callFunc K args).run Tryd.prog W = .ok (.enter K args) W)
    (hK : ∀ (x y : Nat), x < 2 ^ 64 → y < 2 ^ 64 → ∀ W, Calls Tryd.prog K #[.int .u64 (x : Int), .int .u64 (y : Int)] W fun e w' => e = .returned (.int .u64 ((g x y : Nat) : Int)) ∧ w' = W)
    (hg : ∀ x y j, x < 2 ^ 64 → y < 2 ^ 64 → (g x y).testBit j = (decide (j < 64) && op (x.testBit j) (y.testBit j))) (h0 : op false false = false)
    (n : Nat) (A : Option Addr) (ca : Nat) (wa : List Nat) (B : Option Addr) (cb : Nat) (wb : List Nat) (w : World) (ha : Words w w.heap.size A wa) (hb : Words w w.heap.size B wb)
    (hoa : Kb.Ok n wa) (hob : Kb.Ok n wb) (hn : n ≤ 4096) :
    Calls Tryd.prog 70 #[setV n A wa.length ca, setV n B wb.length cb, .func (.func K) #[] #[]] w (CopyRes n (Kb.mkWords n (fun j => op (Kb.bitAt wa j) (Kb.bitAt wb j))) w) := by
  have HG := Lib.hid hg
  clear hg
  have HK := Lib.hid hK
  clear hK
  have hl : wa.length ≤ 64 := by rw [hoa.len]; unfold Kb.nw; omega
  have hlb : Hid (wb.length = wa.length) := Lib.hid (by rw [hoa.len, hob.len])
  have hva : Hid (Kb.validB n wa = true) := Lib.hid ((Kb.validB_iff ha.lt).2 ⟨by omega, by omega, hoa⟩)
  have hvb : Hid (Kb.validB n wb = true) := Lib.hid ((Kb.validB_iff hb.lt).2 ⟨by omega, by omega, hob⟩)
  have hmk := makeWords wa.length (by omega)
  unfold setV
  go_enter Tryd.func70, Tryd.ntmps70
  go_wp2_with fail
  have i1 := CaInv.new_ w (.int .i64 (n : Int)) (.slice A wa.length ca) (.int .i64 (n : Int)) (.slice B wb.length cb) 24
  refine (bvalid_any n A ca wa _ ((ha.below i1.bel).more i1.bel.size) (by omega)).mono ?_
  rintro e w1 ⟨rfl, hb1⟩
  have i2 := i1.below hb1
  clear i1 hb1
  rw [hva.out]
  have d10 := i2.t2.c0
  have d11 := i2.t2.c1
  go_wp2_with fail
  refine (bvalid_any n B cb wb _ ((hb.below i2.bel).more i2.bel.size) (by rw [hlb.out]; omega)).mono ?_
  rintro e w2 ⟨rfl, hb2⟩
  have i3 := i2.below hb2
  clear i2 hb2 d10 d11
  rw [hvb.out]
  have c10 := i3.t1.c0
  have c11 := i3.t1.c1
  have d10 := i3.t2.c0
  have d11 := i3.t2.c1
  have hz := i3.t3.lt
  go_wp2_with fail
  go_loopw [31] (fun i wr => ∃ k : Nat, k ≤ wa.length ∧ i = .int .i64 k ∧ CbInv w wr w2.heap.size (.int .i64 (n : Int)) (.slice A wa.length ca) (.int .i64 (n : Int)) (.slice B wb.length cb) (Kb.fill wa.length k (fun i => g (wa.getD i 0) (wb.getD i 0)))) (fun i _ => wa.length - (intOf i).toNat)
  case atStart => exact ⟨0, Nat.zero_le _, rfl, i3.t1.alloc _, i3.t2.alloc _, i3.t3.alloc _, by rw [Kb.fill_zero]; exact WBlk.new_ _ _, hz, i3.bel.alloc (by omega) _⟩
  case round =>
    obtain ⟨k, hk, rfl, hinv⟩ := hrel
    clear c10 c11 d10 d11
    have c10 := hinv.t1.c0
    have c11 := hinv.t1.c1
    have d10 := hinv.t2.c0
    have d11 := hinv.t2.c1
    by_cases hlt : k < wa.length
    · obtain ⟨b, off, x, rfl, hbb, hc, hx⟩ := (ha.below hinv.bel).at_ hlt
      obtain ⟨b', off', y, rfl, hbb', hc', hy⟩ := (hb.below hinv.bel).at_ (by rw [hlb.out]; exact hlt)
      have hcg := hinv.row.cell (k := k) (by rw [Kb.fill_length]; exact hlt)
      have hfg := hinv.row.frozen k
      have hltb : k < wb.length := by rw [hlb.out]; exact hlt
      go_wp2_with fail
      go_still_tail 15, (by kernel_rfl)
      still_call (HK.out x y hx.out.2 hy.out.2 _)
      repeat still_step
      refine wpStill_nil ?_
      change wpList _ _ _ _ _ wr.drew
      go_wp2_with fail
      go_roundw
      case rel =>
        refine ⟨k + 1, by omega, by go_num, ?_⟩
        have e : g x y = (fun i => g (wa.getD i 0) (wb.getD i 0)) k := by show _ = g (wa.getD k 0) (wb.getD k 0); rw [← hx.out.1, ← hy.out.1]
        rw [e, ← Kb.fill_set _ _ _ hlt]
        exact hinv.set_ k _
      case measure => simp [intOf]; omega
    · have hkl : k = wa.length := by omega
      subst hkl
      have e0 := hinv.t3.c0
      have e1 := hinv.t3.c1
      have f30 := hinv.t3.fr 0
      have f31 := hinv.t3.fr 1
      go_wp2_with fail
      obtain ⟨r0, r1⟩ := two_set wr (.int .i64 (n : Int)) (.slice (some ⟨w2.heap.size, 0, none⟩) wa.length wa.length) e0 e1
      refine bodyPost_ret (v := .tuple #[setV (n : Int) (some ⟨w2.heap.size, 0, none⟩) wa.length wa.length, .int .i64 0]) (by simp [results, Tryd.results70, go_sem, r0, r1, setV]) rfl ?_
      have hr := hinv.row
      have hm : Kb.fill wa.length wa.length (fun i => g (wa.getD i 0) (wb.getD i 0)) = Kb.mkWords n (fun j => op (Kb.bitAt wa j) (Kb.bitAt wb j)) := by rw [hoa.len]; exact Kb.fill_merge hoa hob g op HG.out h0
      rw [hm] at hr
      exact cp_end hr hinv.hg hinv.bel (by rw [Kb.mkWords_length, hoa.len]) (by omega)

set_option maxRecDepth 100000 in
theorem inter_ok (n : Nat) (A : Option Addr) (ca : Nat) (wa : List Nat) (B : Option Addr) (cb : Nat) (wb : List Nat) (w : World) (ha : Words w w.heap.size A wa) (hb : Words w w.heap.size B wb)
    (hoa : Kb.Ok n wa) (hob : Kb.Ok n wb) (hn : n ≤ 4096) :
    Calls Tryd.prog 49 #[setV n A wa.length ca, setV n B wb.length cb] w (SetRes n (Kb.mkWords n (fun j => Kb.bitAt wa j && Kb.bitAt wb j)) w) := by
  unfold setV
  go_enter Tryd.func49, Tryd.ntmps49
  go_wp2_with fail
  have i1 := CaInv.new_ w (.int .i64 (n : Int)) (.slice A wa.length ca) (.int .i64 (n : Int)) (.slice B wb.length cb) 24
  refine (combine_ok 71 (fun x y => x &&& y) (fun p q => p && q) (fun _ _ => rfl) inter1 bit_and rfl n A ca wa B cb wb _ ((ha.below i1.bel).more i1.bel.size) ((hb.below i1.bel).more i1.bel.size) hoa hob hn).mono ?_
  rintro e w1 ⟨g, hg, rfl, hblk, hb1⟩
  have i2 := i1.below hb1
  have hg2 : w.heap.size + 2 < g := by simp at hg; omega
  clear i1 hb1 hg
  have e0 := i2.t3.c0
  have e1 := i2.t3.c1
  have f30 := i2.t3.fr 0
  have f31 := i2.t3.fr 1
  unfold setV
  go_wp2_with fail
  obtain ⟨r0, r1⟩ := two_set w1 (.int .i64 (n : Int)) (.slice (some ⟨g, 0, none⟩) (Kb.mkWords n (fun j => Kb.bitAt wa j && Kb.bitAt wb j)).length (Kb.mkWords n (fun j => Kb.bitAt wa j && Kb.bitAt wb j)).length) e0 e1
  refine bodyPost_ret (v := .tuple #[setV (n : Int) (some ⟨g, 0, none⟩) (Kb.mkWords n (fun j => Kb.bitAt wa j && Kb.bitAt wb j)).length (Kb.mkWords n (fun j => Kb.bitAt wa j && Kb.bitAt wb j)).length, .int .i64 0]) (by simp [results, Tryd.results49, go_sem, r0, r1, setV]) rfl ?_
  exact (cp_end hblk hg2 i2.bel rfl (by omega)).set (Kb.mkWords_lt n _)

end Go.Proofs.YtcicejmahlobhaaDoor.Bs
