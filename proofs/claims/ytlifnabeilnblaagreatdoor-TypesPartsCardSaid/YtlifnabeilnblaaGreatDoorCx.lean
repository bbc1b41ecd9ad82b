/- Walks: CheckType of package syntax. -/
import Derived.Test.YtlifnabeilnblaaGreatDoorVi
namespace Go.Proofs.YtlifnabeilnblaaGreatDoor
open Go.RowKit Go.Sort
set_option linter.unusedVariables false

/-- what is found in a tree -/
def fnd (e : G) : Nat := G.fv (e.any G.mal) (e.any (G.mis fun s => Kx.nameB (bs s))) (e.any G.out)
set_option maxRecDepth 100000 in
set_option maxHeartbeats 1000000 in
theorem check1_any (e : G) (eb B b f : Nat) (w : World) (hB : B ≤ b) (hin : G.In w B e) (hT : Tb B w) (hb : One w b (.int .i64 (f : Nat))) (hf : f ≤ 7) (he : Blk w eb e.box) :
    Calls Tryz.prog 51 #[.func (.func 72) #[] #[.pointer (some ⟨b, 0, none⟩)], .pointer (some ⟨eb, 0, none⟩)] w (ViP B b (f ||| fnd e) w) := by
  have c0 := he.c 0 rfl
  have c1 := he.c 1 rfl
  have c2 := he.c 2 rfl
  have c3 := he.c 3 rfl
  have c4 := he.c 4 rfl
  have c5 := he.c 5 rfl
  have c6 := he.c 6 rfl
  go_enter Tryz.func51, Tryz.ntmps51
  go_wp2_with fail
  refine (walk_any e B b f _ hB hin hT hb hf).mono ?_
  rintro r w1 ⟨rfl, g1, o1⟩
  go_wp2_with fail
  go_end0
  exact ⟨rfl, g1, o1⟩
def codeF (a b c : Bool) : Int := if a then 1 else if b then 7 else if c then 3 else 0
theorem fv_bits (a b c : Bool) : (bits BinOp.and IntKind.i64 ((G.fv a b c : Nat) : Int) 1 != 0) = a ∧ (bits BinOp.and IntKind.i64 ((G.fv a b c : Nat) : Int) 2 != 0) = b ∧ (bits BinOp.and IntKind.i64 ((G.fv a b c : Nat) : Int) 4 != 0) = c := by
  cases a <;> cases b <;> cases c <;> decide
set_option maxRecDepth 100000 in
set_option maxHeartbeats 1000000 in
theorem codeOf_any (e : G) (eb : Nat) (w : World) (hin : G.In w w.heap.size e) (hT : Tb w.heap.size w) (he : Blk w eb e.box) :
    Calls Tryz.prog 50 #[.func (.func 51) #[] #[.pointer (some ⟨eb, 0, none⟩)]] w fun r w' => r = .returned (.int .i64 (codeF (e.any G.mal) (e.any (G.mis fun s => Kx.nameB (bs s))) (e.any G.out))) ∧ Below w.heap.size w w' := by
  have HB := Lib.hid (fv_bits (e.any G.mal) (e.any (G.mis fun s => Kx.nameB (bs s))) (e.any G.out))
  have HF : Hid (0 ||| fnd e = G.fv (e.any G.mal) (e.any (G.mis fun s => Kx.nameB (bs s))) (e.any G.out)) := Lib.hid (by simp [fnd])
  revert HB HF
  generalize e.any G.mal = a
  generalize e.any (G.mis fun s => Kx.nameB (bs s)) = b
  generalize e.any G.out = c
  intro HB HF
  obtain ⟨F, hF⟩ : ∃ F, Hid (G.fv a b c = F) := ⟨_, Lib.hid rfl⟩
  obtain ⟨p1, p2, p3⟩ := HB.out
  rw [hF.out] at p1 p2 p3
  have HG : Hid (0 ||| fnd e = F) := Lib.hid (by rw [HF.out, hF.out])
  clear HB HF hF
  have hel := he.lt
  go_enter Tryz.func50, Tryz.ntmps50
  go_wp2_with fail
  refine (check1_any e eb w.heap.size w.heap.size 0 _ (Nat.le_refl _) (hin.below ?_) (hT.below ?_) (One.new_ w _ _) (by omega) (he.alloc _)).mono ?_
  · exact al1 _ _
  · exact al1 _ _
  rintro r w1 ⟨rfl, g1, o1⟩
  rw [HG.out] at o1
  have c0 := o1.c
  have b1 := bAll (al1 w _) (bGrown g1 (Nat.le_refl _) (by simp))
  clear g1 o1 HG
  cases a with
  | true =>
    go_wp2_with fail
    go_ret
    exact ⟨rfl, b1⟩
  | false =>
    cases b with
    | true =>
      go_wp2_with fail
      go_ret
      exact ⟨rfl, b1⟩
    | false =>
      cases c with
      | true =>
        go_wp2_with fail
        go_ret
        exact ⟨rfl, b1⟩
      | false =>
        go_wp2_with fail
        go_ret
        exact ⟨rfl, b1⟩
set_option maxRecDepth 100000 in
set_option maxHeartbeats 1000000 in
theorem checkType_any (e : G) (w : World) (hin : G.In w w.heap.size e) (hT : Tb w.heap.size w) :
    Calls Tryz.prog 29 #[e.val] w fun r w' => r = .returned (.int .i64 (G.chk nmB e)) ∧ Below w.heap.size w w' := by
  have hk : Hid (G.chk nmB e = if G.cok 0 1 e then codeF (e.any G.mal) (e.any (G.mis fun s => Kx.nameB (bs s))) (e.any G.out) else 4) := Lib.hid (by
    unfold G.chk G.cok codeF
    by_cases h : 1024 < e.nodes ∨ 12 < e.dep
    · have hc : (decide (0 + e.nodes ≤ 1024) && decide (1 + e.dep ≤ 13)) = false := by rw [Bool.and_eq_false_iff, decide_eq_false_iff_not, decide_eq_false_iff_not]; omega
      rw [if_pos h, hc]; rfl
    · have hc : (decide (0 + e.nodes ≤ 1024) && decide (1 + e.dep ≤ 13)) = true := by rw [Bool.and_eq_true, decide_eq_true_eq, decide_eq_true_eq]; omega
      rw [if_neg h, hc]; rfl)
  have i0 : Blk ((w.alloc (.cells e.box 26)).alloc (.cells #[.int .i64 0] 96)) w.heap.size e.box := (Blk.new_ _ _ _).alloc _
  have i1 : One ((w.alloc (.cells e.box 26)).alloc (.cells #[.int .i64 0] 96)) (w.heap.size + 1) (.int .i64 ((0 : Nat) : Int)) := by
    have := One.new_ (w.alloc (.cells e.box 26)) (.int .i64 0) 96
    rwa [World.size_alloc] at this
  have b0 : Below (w.heap.size + 1) (w.alloc (.cells e.box 26)) ((w.alloc (.cells e.box 26)).alloc (.cells #[.int .i64 0] 96)) := by
    have := al1 (w.alloc (.cells e.box 26)) (.cells #[.int .i64 0] 96)
    rwa [World.size_alloc] at this
  have b00 := al1 w (.cells e.box 26)
  have b01 : Below w.heap.size w ((w.alloc (.cells e.box 26)).alloc (.cells #[.int .i64 0] 96)) := b00.trans (b0.mono (by omega))
  have hin1 := (hin.below b01).more (show w.heap.size ≤ w.heap.size + 1 by omega)
  have hT1 := (hT.below b01).more (show w.heap.size ≤ w.heap.size + 1 by omega)
  have hsz : ((w.alloc (.cells e.box 26)).alloc (.cells #[.int .i64 0] 96)).heap.size = w.heap.size + 2 := by simp
  go_enter Tryz.func29, Tryz.ntmps29
  go_wp2_with fail
  revert i0 i1 b01 hin1 hT1 hsz
  clear b0 b00
  generalize (w.alloc (.cells #[.int .i64 e.kd, .int .i64 e.lo, .int .i64 e.hi, .int .i64 e.sz, .string e.nm, .slice e.na e.ns.length e.nc, .slice e.ad e.ks.length e.cap] 26)).alloc (.cells #[.int .i64 0] 96) = w1
  intro i0 i1 b01 hin1 hT1 hsz
  refine (kind_any e (w.heap.size + 1) (w.heap.size + 1) 0 1 _ (Nat.le_refl _) hin1 i1 (by omega) (by omega)).mono ?_
  rintro r w2 ⟨rfl, b2, m, hm, o2, _⟩
  have j0 := i0.below b2 (by omega)
  have b3 := b01.trans (b2.mono (by omega))
  have hz2 := b2.size
  have hz3 : w.heap.size + 1 < w2.heap.size := o2.lt
  have hin2 := (hin1.below b2).more (show w.heap.size + 1 ≤ w2.heap.size by omega)
  have hT2 := (hT1.below b2).more (show w.heap.size + 1 ≤ w2.heap.size by omega)
  clear i0 i1 hin1 hT1 b2 b01 hin hT
  cases hok : G.cok 0 1 e with
  | false =>
    have HR : Hid (G.chk nmB e = 4) := Lib.hid (by rw [hk.out, hok]; rfl)
    clear hk hok
    go_wp2_with fail
    go_ret
    exact ⟨ret_int HR.out.symm, b3⟩
  | true =>
    have HR : Hid (G.chk nmB e = codeF (e.any G.mal) (e.any (G.mis fun s => Kx.nameB (bs s))) (e.any G.out)) := Lib.hid (by rw [hk.out, hok]; rfl)
    clear hk hok
    go_wp2_with fail
    refine (codeOf_any e w.heap.size _ hin2 hT2 j0).mono ?_
    rintro r w3 ⟨rfl, b4⟩
    go_wp2_with fail
    go_ret
    exact ⟨ret_int HR.out.symm, bTrans b3 b4⟩
end Go.Proofs.YtlifnabeilnblaaGreatDoor
