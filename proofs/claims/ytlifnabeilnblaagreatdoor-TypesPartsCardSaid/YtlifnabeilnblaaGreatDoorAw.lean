/- Walks: anywhere of package types, at its three conditions. -/
import Derived.Test.YtlifnabeilnblaaGreatDoorAn
import Derived.Test.YtlifnabeilnblaaGreatDoorTw
namespace Go.Proofs.YtlifnabeilnblaaGreatDoor
open Go.RowKit Go.Sort
set_option linter.unusedVariables false

set_option maxRecDepth 100000 in
set_option maxHeartbeats 1000000 in
theorem anywhere_isname {p : G → Bool} {J : World → Prop} (H : Hp 31 #[] p J) (e : G) : AnE 31 #[] p J e := by
  induction e using G.ind with
  | h e ih =>
  intro w hJ hin
  have X := AnW.start w e (.func (.func 31) #[] #[]) 26 28
  have HA := Lib.hid (G.any_eq p e)
  have C1 : ∀ W, AnW w W e (.func (.func 31) #[] #[]) → Calls Tryz.prog 31 #[e.val] W fun r w' => r = .returned (.bool (p e)) ∧ Below W.heap.size W w' :=
    fun W i => by have := H.call e W (H.keep _ _ hJ i.bel) (hin.at i.bel); exact this
  have C2 : ∀ W, AnW w W e (.func (.func 31) #[] #[]) → Calls Tryz.prog 54 #[.slice e.ad e.ks.length e.cap, .func (.func 53) #[] #[.pointer (some ⟨w.heap.size + 1, 0, none⟩)]] W fun r w' => r = .returned (.bool (G.anyL p e.ks)) ∧ Below W.heap.size W w' :=
    fun W i => tcontains_any H e.ks ih e.ad e.cap _ W (H.keep _ _ hJ i.bel) (hin.at i.bel).l i.bh
  have H1 := Lib.hid C1
  have H2 := Lib.hid C2
  clear C1 C2 ih H
  go_enter Tryz.func30, Tryz.ntmps30
  go_upto_region 2 with (fail)
  revert X
  generalize (w.alloc (.cells #[.int .i64 e.kd, .int .i64 e.lo, .int .i64 e.hi, .int .i64 e.sz, .string e.nm, .slice e.na e.ns.length e.nc, .slice e.ad e.ks.length e.cap] 26)).alloc (.cells #[.func (.func 31) #[] #[]] 28) = w1
  intro X
  have c0 := X.be.c 0 (show e.box[0]? = some (.int .i64 e.kd) from rfl)
  have c1 := X.be.c 1 (show e.box[1]? = some (.int .i64 e.lo) from rfl)
  have c2 := X.be.c 2 (show e.box[2]? = some (.int .i64 e.hi) from rfl)
  have c3 := X.be.c 3 (show e.box[3]? = some (.int .i64 e.sz) from rfl)
  have c4 := X.be.c 4 (show e.box[4]? = some (.string e.nm) from rfl)
  have c5 := X.be.c 5 (show e.box[5]? = some (.slice e.na e.ns.length e.nc) from rfl)
  have c6 := X.be.c 6 (show e.box[6]? = some (.slice e.ad e.ks.length e.cap) from rfl)
  have ch := X.bh.c
  cases hq : p e with
  | true =>
    have HR : Hid (true = e.any p) := Lib.hid (by rw [HA.out, hq]; rfl)
    have HQ := Lib.hid hq
    clear hq HA H2
    go_wp2_with fail
    refine (H1.out _ X).mono ?_
    rintro r w2 ⟨rfl, b2⟩
    rw [HQ.out]
    have b3 := bTrans X.bel b2
    go_wp2_with fail
    go_ret
    exact ⟨ret_bool HR.out, b3⟩
  | false =>
    have HR : Hid (G.anyL p e.ks = e.any p) := Lib.hid (by rw [HA.out, hq]; rfl)
    have HQ := Lib.hid hq
    clear hq HA
    go_wp2_with fail
    refine (H1.out _ X).mono ?_
    rintro r w2 ⟨rfl, b2⟩
    rw [HQ.out]
    have Y := X.below b2
    have d6 := Y.be.c 6 (show e.box[6]? = some (.slice e.ad e.ks.length e.cap) from rfl)
    go_wp2_with fail
    refine (H2.out _ Y).mono ?_
    rintro r w3 ⟨rfl, b3⟩
    have b4 := bTrans Y.bel b3
    go_wp2_with fail
    go_ret
    exact ⟨ret_bool HR.out, b4⟩
set_option maxRecDepth 100000 in
set_option maxHeartbeats 1000000 in
theorem anywhere_twins {p : G → Bool} {J : World → Prop} (H : Hp 55 #[] p J) (e : G) : AnE 55 #[] p J e := by
  induction e using G.ind with
  | h e ih =>
  intro w hJ hin
  have X := AnW.start w e (.func (.func 55) #[] #[]) 26 28
  have HA := Lib.hid (G.any_eq p e)
  have C1 : ∀ W, AnW w W e (.func (.func 55) #[] #[]) → Calls Tryz.prog 55 #[e.val] W fun r w' => r = .returned (.bool (p e)) ∧ Below W.heap.size W w' :=
    fun W i => by have := H.call e W (H.keep _ _ hJ i.bel) (hin.at i.bel); exact this
  have C2 : ∀ W, AnW w W e (.func (.func 55) #[] #[]) → Calls Tryz.prog 54 #[.slice e.ad e.ks.length e.cap, .func (.func 53) #[] #[.pointer (some ⟨w.heap.size + 1, 0, none⟩)]] W fun r w' => r = .returned (.bool (G.anyL p e.ks)) ∧ Below W.heap.size W w' :=
    fun W i => tcontains_any H e.ks ih e.ad e.cap _ W (H.keep _ _ hJ i.bel) (hin.at i.bel).l i.bh
  have H1 := Lib.hid C1
  have H2 := Lib.hid C2
  clear C1 C2 ih H
  go_enter Tryz.func30, Tryz.ntmps30
  go_upto_region 2 with (fail)
  revert X
  generalize (w.alloc (.cells #[.int .i64 e.kd, .int .i64 e.lo, .int .i64 e.hi, .int .i64 e.sz, .string e.nm, .slice e.na e.ns.length e.nc, .slice e.ad e.ks.length e.cap] 26)).alloc (.cells #[.func (.func 55) #[] #[]] 28) = w1
  intro X
  have c0 := X.be.c 0 (show e.box[0]? = some (.int .i64 e.kd) from rfl)
  have c1 := X.be.c 1 (show e.box[1]? = some (.int .i64 e.lo) from rfl)
  have c2 := X.be.c 2 (show e.box[2]? = some (.int .i64 e.hi) from rfl)
  have c3 := X.be.c 3 (show e.box[3]? = some (.int .i64 e.sz) from rfl)
  have c4 := X.be.c 4 (show e.box[4]? = some (.string e.nm) from rfl)
  have c5 := X.be.c 5 (show e.box[5]? = some (.slice e.na e.ns.length e.nc) from rfl)
  have c6 := X.be.c 6 (show e.box[6]? = some (.slice e.ad e.ks.length e.cap) from rfl)
  have ch := X.bh.c
  cases hq : p e with
  | true =>
    have HR : Hid (true = e.any p) := Lib.hid (by rw [HA.out, hq]; rfl)
    have HQ := Lib.hid hq
    clear hq HA H2
    go_wp2_with fail
    refine (H1.out _ X).mono ?_
    rintro r w2 ⟨rfl, b2⟩
    rw [HQ.out]
    have b3 := bTrans X.bel b2
    go_wp2_with fail
    go_ret
    exact ⟨ret_bool HR.out, b3⟩
  | false =>
    have HR : Hid (G.anyL p e.ks = e.any p) := Lib.hid (by rw [HA.out, hq]; rfl)
    have HQ := Lib.hid hq
    clear hq HA
    go_wp2_with fail
    refine (H1.out _ X).mono ?_
    rintro r w2 ⟨rfl, b2⟩
    rw [HQ.out]
    have Y := X.below b2
    have d6 := Y.be.c 6 (show e.box[6]? = some (.slice e.ad e.ks.length e.cap) from rfl)
    go_wp2_with fail
    refine (H2.out _ Y).mono ?_
    rintro r w3 ⟨rfl, b3⟩
    have b4 := bTrans Y.bel b3
    go_wp2_with fail
    go_ret
    exact ⟨ret_bool HR.out, b4⟩
set_option maxRecDepth 100000 in
set_option maxHeartbeats 1000000 in
theorem anywhere_unk (cv : Value) {p : G → Bool} {J : World → Prop} (H : Hp 59 #[cv] p J) (e : G) : AnE 59 #[cv] p J e := by
  induction e using G.ind with
  | h e ih =>
  intro w hJ hin
  have X := AnW.start w e (.func (.func 59) #[] #[cv]) 26 28
  have HA := Lib.hid (G.any_eq p e)
  have C1 : ∀ W, AnW w W e (.func (.func 59) #[] #[cv]) → Calls Tryz.prog 59 #[e.val, cv] W fun r w' => r = .returned (.bool (p e)) ∧ Below W.heap.size W w' :=
    fun W i => by have := H.call e W (H.keep _ _ hJ i.bel) (hin.at i.bel); exact this
  have C2 : ∀ W, AnW w W e (.func (.func 59) #[] #[cv]) → Calls Tryz.prog 54 #[.slice e.ad e.ks.length e.cap, .func (.func 53) #[] #[.pointer (some ⟨w.heap.size + 1, 0, none⟩)]] W fun r w' => r = .returned (.bool (G.anyL p e.ks)) ∧ Below W.heap.size W w' :=
    fun W i => tcontains_any H e.ks ih e.ad e.cap _ W (H.keep _ _ hJ i.bel) (hin.at i.bel).l i.bh
  have H1 := Lib.hid C1
  have H2 := Lib.hid C2
  clear C1 C2 ih H
  go_enter Tryz.func30, Tryz.ntmps30
  go_upto_region 2 with (fail)
  revert X
  generalize (w.alloc (.cells #[.int .i64 e.kd, .int .i64 e.lo, .int .i64 e.hi, .int .i64 e.sz, .string e.nm, .slice e.na e.ns.length e.nc, .slice e.ad e.ks.length e.cap] 26)).alloc (.cells #[.func (.func 59) #[] #[cv]] 28) = w1
  intro X
  have c0 := X.be.c 0 (show e.box[0]? = some (.int .i64 e.kd) from rfl)
  have c1 := X.be.c 1 (show e.box[1]? = some (.int .i64 e.lo) from rfl)
  have c2 := X.be.c 2 (show e.box[2]? = some (.int .i64 e.hi) from rfl)
  have c3 := X.be.c 3 (show e.box[3]? = some (.int .i64 e.sz) from rfl)
  have c4 := X.be.c 4 (show e.box[4]? = some (.string e.nm) from rfl)
  have c5 := X.be.c 5 (show e.box[5]? = some (.slice e.na e.ns.length e.nc) from rfl)
  have c6 := X.be.c 6 (show e.box[6]? = some (.slice e.ad e.ks.length e.cap) from rfl)
  have ch := X.bh.c
  cases hq : p e with
  | true =>
    have HR : Hid (true = e.any p) := Lib.hid (by rw [HA.out, hq]; rfl)
    have HQ := Lib.hid hq
    clear hq HA H2
    go_wp2_with fail
    refine (H1.out _ X).mono ?_
    rintro r w2 ⟨rfl, b2⟩
    rw [HQ.out]
    have b3 := bTrans X.bel b2
    go_wp2_with fail
    go_ret
    exact ⟨ret_bool HR.out, b3⟩
  | false =>
    have HR : Hid (G.anyL p e.ks = e.any p) := Lib.hid (by rw [HA.out, hq]; rfl)
    have HQ := Lib.hid hq
    clear hq HA
    go_wp2_with fail
    refine (H1.out _ X).mono ?_
    rintro r w2 ⟨rfl, b2⟩
    rw [HQ.out]
    have Y := X.below b2
    have d6 := Y.be.c 6 (show e.box[6]? = some (.slice e.ad e.ks.length e.cap) from rfl)
    go_wp2_with fail
    refine (H2.out _ Y).mono ?_
    rintro r w3 ⟨rfl, b3⟩
    have b4 := bTrans Y.bel b3
    go_wp2_with fail
    go_ret
    exact ⟨ret_bool HR.out, b4⟩
/-- the condition of Check -/
theorem isname1_any (e : G) (w : World) : Calls Tryz.prog 31 #[e.val] w fun r w' => r = .returned (.bool e.isName) ∧ Below w.heap.size w w' := by
  have b1 := (Eb.start w e 26).bel
  have HR : Hid ((e.kd == 4) = e.isName) := Lib.hid rfl
  go_enter Tryz.func31, Tryz.ntmps31
  go_wp2_with fail
  go_ret
  exact ⟨ret_bool HR.out, b1⟩
theorem hp_isname : Hp 31 #[] G.isName (fun _ => True) := ⟨fun k w _ _ => isname1_any k w, fun _ _ _ _ => trivial⟩
theorem hp_twins : Hp 55 #[] G.twins (fun _ => True) := ⟨fun k w _ hin => twins_any k w hin.nd, fun _ _ _ _ => trivial⟩
end Go.Proofs.YtlifnabeilnblaaGreatDoor
