/- Walk: the law TypesFinds. -/
import Derived.Test.YtlifnabeilnblaaGreatDoorFt
import Derived.Test.YtlifnabeilnblaaGreatDoorKw
import Derived.Test.YtlifnabeilnblaaGreatDoorRe
namespace Go.Proofs.YtlifnabeilnblaaGreatDoor
open Go.RowKit Go.Sort
set_option linter.unusedVariables false

set_option maxRecDepth 100000 in
set_option maxHeartbeats 4000000 in
theorem finds_walk (e : G) (p : ByteArray) (w : World) (he : G.In w w.heap.size e) (hps : p.size ≤ 9223372036854775807) (hT : Tb w.heap.size w) :
    Calls Tryz.prog 3 #[e.val, .string p] w fun r w' => r = .returned (.bool true) ∧ Below w.heap.size w w' := by
  have X := Eb.start w e 26
  have HT := Lib.hid (fun W (i : Below w.heap.size w W) => hT.at i)
  have F1 := Lib.hid (fun W (i : Eb w W e) => few_any e W (he.at i.bel))
  have X1 := Lib.hid (fun W (i : Eb w W e) => find_any e p W (he.at i.bel) (hT.at i.bel) hps)
  have X2 := Lib.hid (fun (h : e.nodes ≤ 1000000) W (i : Eb w W e) => rFind_any e p W (he.at i.bel) h)
  have HN1 := Lib.hid (show fewB e = true → e.nodes ≤ 1000000 from few_nodes)
  obtain ⟨y, hy⟩ : ∃ y, Hid (fnT e p = y) := ⟨_, Lib.hid rfl⟩
  rw [hy.out] at X1 X2
  unfold FnP at X1 X2
  clear he hT hy hps
  go_enter Tryz.func3, Tryz.ntmps3
  go_upto_region 1 with (fail)
  revert X
  generalize w.alloc (.cells #[.int .i64 e.kd, .int .i64 e.lo, .int .i64 e.hi, .int .i64 e.sz, .string e.nm, .slice e.na e.ns.length e.nc, .slice e.ad e.ks.length e.cap] 26) = w1
  intro X
  go_wp2_with fail
  refine (known_any _ (HT.out _ X.bel)).mono ?_
  rintro r w2 ⟨rfl, b2⟩
  replace X := X.below b2
  clear b2 HT
  obtain ⟨k0, k1, k2, k3, k4, k5, k6⟩ := box_cells X.be
  cases h1 : fewB e with
  | false =>
    rw [h1] at F1
    clear h1
    go_wp2_with fail
    refine (F1.out _ X).mono ?_
    rintro r w4 ⟨rfl, b4⟩
    have b5 := (X.below b4).bel
    go_wp2_with fail
    go_ret
    exact ⟨rfl, b5⟩
  | true =>
    have X2'' := Lib.hid (X2.out (HN1.out h1))
    rw [h1] at F1
    clear h1 HN1 X2
    go_wp2_with fail
    refine (F1.out _ X).mono ?_
    rintro r w4 ⟨rfl, b4⟩
    replace X := X.below b4
    clear b4 F1 k0 k1 k2 k3 k4 k5 k6
    obtain ⟨k0, k1, k2, k3, k4, k5, k6⟩ := box_cells X.be
    go_wp2_with fail
    refine (X1.out _ X).mono ?_
    rintro r w5 ⟨x, rfl, hxb, hx, b5⟩
    have b6 := bTrans b5 (al1 w5 (.cells x.box 26))
    have BX := Blk.new_ w5 x.box 26
    have hxi := hx.at (al1 w5 (.cells x.box 26))
    replace X := X.below b6
    clear b5 b6 X1 hx k0 k1 k2 k3 k4 k5 k6
    obtain ⟨k0, k1, k2, k3, k4, k5, k6⟩ := box_cells X.be
    go_wp2_with fail
    refine (X2''.out _ X).mono ?_
    rintro r w7 ⟨z, rfl, hzb, hz, b7⟩
    have b8 := bTrans b7 (al1 w7 (.cells z.box 26))
    have BZ := Blk.new_ w7 z.box 26
    have hzi := hz.at (al1 w7 (.cells z.box 26))
    replace X := X.below b8
    replace BX := BX.below b8 BX.lt
    replace hxi := hxi.at b8
    have HQ := Lib.hid (requal_any x z _ hxi hzi)
    rw [(G.eqB_bare x z).2 (by rw [hxb, hzb])] at HQ
    have bw := X.bel
    clear b7 b8 X2'' hz hxi hzi hxb hzb k0 k1 k2 k3 k4 k5 k6
    obtain ⟨k0, k1, k2, k3, k4, k5, k6⟩ := box_cells BX
    obtain ⟨m0, m1, m2, m3, m4, m5, m6⟩ := box_cells BZ
    go_wp2_with fail
    refine HQ.out.mono ?_
    rintro r w9 ⟨rfl, b9⟩
    have b10 := bTrans bw b9
    go_wp2_with fail
    go_ret
    exact ⟨rfl, b10⟩
end Go.Proofs.YtlifnabeilnblaaGreatDoor
