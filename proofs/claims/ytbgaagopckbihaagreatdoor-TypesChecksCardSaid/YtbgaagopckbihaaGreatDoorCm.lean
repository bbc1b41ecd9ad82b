/- Walks: the collector of Scalars at arrays and records; Scalars of package types. -/
import Derived.Test.YtbgaagopckbihaaGreatDoorCl
import Derived.Test.YtbgaagopckbihaaGreatDoorCe
namespace Go.Proofs.YtbgaagopckbihaaGreatDoor
open Go.RowKit Go.Sort
set_option linter.unusedVariables false

theorem KS {w : World} {fb b : Nat} {x : Value} {c : ByteArray × G} (h : One w fb x) (k : Blk w b (cBox c)) :
    w.cell? ⟨fb, 0, none⟩ = some x ∧ w.cell? ⟨b, 0, none⟩ = some (.string c.1) ∧ w.cell? ⟨b, 1, none⟩ = some (.int .i64 c.2.kd) ∧ w.cell? ⟨b, 2, none⟩ = some (.int .i64 c.2.lo) ∧ w.cell? ⟨b, 3, none⟩ = some (.int .i64 c.2.hi) ∧ w.cell? ⟨b, 4, none⟩ = some (.int .i64 c.2.sz) ∧ w.cell? ⟨b, 5, none⟩ = some (.string c.2.nm) ∧ w.cell? ⟨b, 6, none⟩ = some (.slice c.2.na c.2.ns.length c.2.nc) ∧ w.cell? ⟨b, 7, none⟩ = some (.slice c.2.ad c.2.ks.length c.2.cap) :=
  ⟨h.c, k.c 0 rfl, k.c 1 rfl, k.c 2 rfl, k.c 3 rfl, k.c 4 rfl, k.c 5 rfl, k.c 6 rfl, k.c 7 rfl⟩
theorem fm_take {α β : Type} (f : α → List β) (l : List α) {i : Nat} {c : α} (h : l[i]? = some c) : (l.take (i + 1)).flatMap f = (l.take i).flatMap f ++ f c := by
  obtain ⟨hi, rfl⟩ := List.getElem?_eq_some_iff.1 h
  rw [List.take_succ_eq_append_getElem hi, List.flatMap_append]; simp
theorem fm_len {α β : Type} (f : α → List β) (l : List α) {i : Nat} {c : α} (h : l[i]? = some c) : ((l.take i).flatMap f).length + (f c).length ≤ (l.flatMap f).length := by
  have h1 := fm_take f l h
  have h2 : (l.flatMap f).length = ((l.take (i + 1)).flatMap f).length + ((l.drop (i + 1)).flatMap f).length := by
    conv => lhs; rw [← List.take_append_drop (i + 1) l, List.flatMap_append, List.length_append]
  rw [h1, List.length_append] at h2
  omega
set_option maxRecDepth 100000 in
set_option maxHeartbeats 4000000 in
theorem collect_node (e : G) (hk : 2 ≤ e.kd) (hk3 : e.kd < 4) (ih : ∀ k ∈ e.ks, ClE k) : ClE e := by
  intro B lb fb L n p w v l hS hin hL hL2 hp hV hn
  have IH := Lib.hid ih
  have hSB := hS.hl
  have hSz := hS.hz
  have X := Eb.start w e 26
  have HX := Lib.hid (fun W (i : Eb w W e) => components_any e W ((hin.below (i.bel.mono (by omega))).more (by have := i.bel.size; omega)) (G.any_self hV.mal) (G.any_self hV.out))
  have HSc : Hid (G.scal e p = (G.comps e).flatMap fun c => G.scal c.2 (jn p c.1)) := Lib.hid (G.scal_comps e p hk hk3)
  have HCk := Lib.hid (fun c (hc : c ∈ G.comps e) => And.intro (G.comp_ok hV hc) (hV.kid (G.comp_ok hV hc).1))
  have hkids : ∀ k ∈ e.ks, G.In w L k := G.inL_iff.1 hin.kids
  have HKi := Lib.hid hkids
  have HDp := Lib.hid (fun k (hm : k ∈ e.ks) => show k.dep + 1 ≤ e.dep by have := G.depL_mem hm; rw [G.dep_eq e]; omega)
  have hpos : 0 < (G.comps e).length ∧ (G.comps e).length ≤ 32 := by
    have f := (G.mal_iff e).1 (G.any_self hV.mal)
    have ho := G.any_self hV.out
    unfold G.comps
    by_cases h2 : e.kd = 2
    · rw [if_pos h2]
      have h1 := f.ar h2
      unfold G.out G.inr at ho
      rw [h2] at ho
      simp at ho
      unfold G.comps2
      cases hks : e.ks with
      | nil => rw [hks] at h1; simp at h1
      | cons a b => simp only [List.length_map, List.length_range]; omega
    · have h3 : e.kd = 3 := by omega
      rw [if_neg h2, if_pos h3, List.length_zip]
      have := f.rc h3
      unfold G.out G.inr at ho
      rw [h3] at ho
      simp at ho
      omega
  rw [HSc.out] at hn ⊢
  obtain ⟨cs, hcs⟩ : ∃ cs, Hid (G.comps e = cs) := ⟨_, Lib.hid rfl⟩
  rw [hcs.out] at HX HCk hn hpos ⊢
  obtain ⟨m, hm⟩ : ∃ m, Hid (cs.length = m) := ⟨_, Lib.hid rfl⟩
  have HX2 := Lib.hid (show ∀ W, Eb w W e → Calls Tryz.prog 53 #[e.val] W fun r w' => ∃ A c, r = .returned (.slice A m c) ∧ RowS w' (New W) A (flatC cs) ∧ Below W.heap.size W w' from fun W i => by rw [← hm.out]; exact HX.out W i)
  rw [hm.out] at hpos
  have hm32 := hpos.2
  have hpos1 := hpos.1
  have hown := hS.own
  have hfl := hS.hf
  clear ih hin hkids hV hcs HSc hk hk3 HX hown
  go_enter Tryz.func52, Tryz.ntmps52
  go_upto_region 1 with (fail)
  revert X
  generalize w.alloc (.cells #[.int .i64 e.kd, .int .i64 e.lo, .int .i64 e.hi, .int .i64 e.sz, .string e.nm, .slice e.na e.ns.length e.nc, .slice e.ad e.ks.length e.cap] 26) = w1
  intro X
  obtain ⟨k0, k1, k2, k3, k4, k5, k6⟩ := box_cells X.be
  go_wp2_with fail
  refine (HX2.out _ X).mono ?_
  rintro r w2 ⟨A2, c2, rfl, hr, b2⟩
  have X2 := X.below b2
  have hx1 := X.bel.size
  have F2 : FrS lb w v w2 v := FrS.below X2.bel
  have S2 := hS.below X2.bel
  have hmI : (((m : Nat) : Int) == 0) = false := by simp; omega
  clear k0 k1 k2 k3 k4 k5 k6 HX2 X
  go_wp2_with fail
  clear hmI
  go_loopw [22] (fun iv wr => ∃ (i : Nat) (v' : Value) (l' : List Sl), i ≤ m ∧ iv = .int .i64 i ∧ Hid (l' = l ++ (cs.take i).flatMap fun c => G.scal c.2 (jn p c.1)) ∧ SI B lb fb wr v' l' l'.length ∧ FrS lb w2 v wr v') (fun iv _ => m - (intOf iv).toNat)
  case atStart => exact ⟨0, v, l, Nat.zero_le _, rfl, Lib.hid (by simp), by rw [hS.len]; exact S2, FrS.below (Below.refl _ _)⟩
  case round =>
    obtain ⟨i, v', l', hi, rfl, hl', I, F⟩ := hrel
    have hv : ∀ k, v.ownBlock = some k → B ≤ k ∧ k < w.heap.size := fun k hk => hS.own.lt k hk
    by_cases hlt : i < m
    · have hrw := F.rowS hr (fun b hb => ⟨by have : w1.heap.size ≤ b := hb; omega, fun e => by have := (hv b e.symm).2; have : w1.heap.size ≤ b := hb; omega⟩)
      obtain ⟨b, off, c, rfl, hSb, hbl, hci, d0, d1, d2, d3, d4, d5, d6, d7⟩ := comp_at hrw (show i < cs.length by rw [hm.out]; exact hlt)
      have hcm : c ∈ cs := List.mem_of_getElem? hci
      obtain ⟨⟨hck, hcs12⟩, hVk⟩ := HCk.out c hcm
      have hbL : Below L w wr := (bAll (X2.bel.mono (show L ≤ w.heap.size by omega)) (F.low S2 hL))
      have HFT := Lib.hid (fm_take (fun c => G.scal c.2 (jn p c.1)) cs hci)
      have hfl2 := fm_len (fun c => G.scal c.2 (jn p c.1)) cs hci
      have hll : l'.length = l.length + ((cs.take i).flatMap fun c => G.scal c.2 (jn p c.1)).length := by rw [hl'.out, List.length_append]
      have hSl := hS.len
      have HI := Lib.hid (fun W (hb : Below wr.heap.size wr W) => IH.out c.2 hck B lb fb L l'.length (jn p c.1) W v' l' (I.below hb) ((HKi.out c.2 hck).below (bAll hbL (hb.mono (by have := I.hz; omega)))) hL hL2 (by
        rw [jn_size]
        have := HDp.out c.2 hck
        omega) hVk (by omega))
      have hjs := Lib.hid (fun W => join_any p c.1 (by omega) (by omega) W)
      have HLN : Hid (l' ++ G.scal c.2 (jn p c.1) = l ++ (cs.take (i + 1)).flatMap fun c => G.scal c.2 (jn p c.1)) := Lib.hid (by rw [HFT.out, hl'.out, List.append_assoc])
      have BC := Blk.new_ wr (cBox c) 84
      have hal := al1 wr (.cells (cBox c) 84)
      have IA := I.below hal
      have hv' : ∀ k, v'.ownBlock = some k → B ≤ k ∧ k < wr.heap.size := fun k hk => I.own.lt k hk
      have hfw : fb < wr.heap.size := I.bf.lt
      have hlw : lb < wr.heap.size := I.bl.lt
      obtain ⟨q, hq⟩ : ∃ q, Hid (jn p c.1 = q) := ⟨_, Lib.hid rfl⟩
      have HV' := Lib.hid hv'
      clear hci hcm hck hVk hfl2 hll hjs HFT hSl hl' hv hv'
      have hjs := Lib.hid (fun W => by have := join_any p c.1 (by omega) (by omega) W; rw [hq.out] at this; exact this)
      rw [hq.out] at HI HLN
      go_upto_region 7 with (fail)
      clear d0 d1 d2 d3 d4 d5 d6 d7
      revert BC hal IA
      generalize wr.alloc (.cells #[.string c.1, .int .i64 c.2.kd, .int .i64 c.2.lo, .int .i64 c.2.hi, .int .i64 c.2.sz, .string c.2.nm, .slice c.2.na c.2.ns.length c.2.nc, .slice c.2.ad c.2.ks.length c.2.cap] 84) = w4
      intro BC hal IA
      have b0 : Below w4.heap.size w4 w4.drew := (Below.refl _ _).drew
      have K0 := KS IA.bf.drew BC.drew
      go_region_held3 (fun w' => w'.cell? ⟨fb, 0, none⟩ = some (colV lb fb) ∧ w'.cell? ⟨wr.heap.size, 0, none⟩ = some (.string c.1) ∧ w'.cell? ⟨wr.heap.size, 1, none⟩ = some (.int .i64 c.2.kd) ∧ w'.cell? ⟨wr.heap.size, 2, none⟩ = some (.int .i64 c.2.lo) ∧ w'.cell? ⟨wr.heap.size, 3, none⟩ = some (.int .i64 c.2.hi) ∧ w'.cell? ⟨wr.heap.size, 4, none⟩ = some (.int .i64 c.2.sz) ∧ w'.cell? ⟨wr.heap.size, 5, none⟩ = some (.string c.2.nm) ∧ w'.cell? ⟨wr.heap.size, 6, none⟩ = some (.slice c.2.na c.2.ns.length c.2.nc) ∧ w'.cell? ⟨wr.heap.size, 7, none⟩ = some (.slice c.2.ad c.2.ks.length c.2.cap)) (first | exact K0 | exact K1 | exact K2)
        (first
          | (go_at_call 55; refine (hjs.out _).mono ?_; rintro r w5 ⟨rfl, b5⟩; have b6 := bTrans b0 b5; have I5 := IA.below b6; have BC5 := BC.below b6 BC.lt; have K1 := KS I5.bf BC5)
          | (go_at_call 52; refine (HI.out w5 (bTrans hal b6)).mono ?_; rintro r w6 ⟨v6, rfl, I6, F6⟩; have K2 := KS I6.bf (F6.blk (w0 := w5) (l := l') (B := B) (fb := fb) (n := l'.length) BC5 (by omega) (fun e => by have := (HV'.out _ e.symm).2; omega))))
      have F7 : FrS lb w2 v w6 v6 := (F.trans (FrS.below (bTrans hal b6))).trans F6
      clear K0 K1 K2 BC BC5 IA I5 I hal b0 b5 b6 HI hjs F F6 hrw
      go_wp2_with fail
      go_roundw
      case rel => exact ⟨i + 1, v6, l' ++ G.scal c.2 q, by omega, by go_num, HLN, I6, F7⟩
      case measure => simp [intOf]; omega
    · obtain rfl : i = m := by omega
      have HLE : Hid (l' = l ++ cs.flatMap fun c => G.scal c.2 (jn p c.1)) := Lib.hid (by rw [hl'.out, List.take_of_length_le (by rw [hm.out]; exact Nat.le_refl _)])
      have F7 := F2.trans F
      go_wp2_with fail
      go_end0
      exact ⟨v', rfl, by rw [← HLE.out]; exact I, F7⟩
theorem collect_any (e : G) : ClE e := by
  induction e using G.ind with
  | h e ih =>
    intro B lb fb L n p w v l hS hin hL hL2 hp hV hn
    have f := (G.mal_iff e).1 (G.any_self hV.mal)
    have hnm := G.any_self hV.nam
    unfold G.isName at hnm
    have h4 : e.kd ≠ 4 := by simpa using hnm
    have h0 := f.k0
    have h5 := f.k5
    by_cases h : e.kd = 0 ∨ e.kd = 1
    · exact collect_leaf e h B lb fb L n p w v l hS hin hL hL2 hp hV hn
    · exact collect_node e (by omega) (by omega) ih B lb fb L n p w v l hS hin hL hL2 hp hV hn
end Go.Proofs.YtbgaagopckbihaaGreatDoor
