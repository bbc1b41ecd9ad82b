/- My texts, packed: N3, N5, N6, N7, Y3, Y4. -/
import Derived.Test.YtkpomjdablopaaaGreatDoorZ17
import Derived.Test.YtkpomjdablopaaaGreatDoorZ18
import Derived.Test.YtkpomjdablopaaaGreatDoorZ14
/- Walks of package rational: Add of the reference. -/
namespace Go.Proofs.YtkpomjdablopaaaGreatDoor
open Go.RowKit
set_option linter.unusedVariables false

/-- an integer in a new box -/
def Bn (hi : Nat) (x : Int) (n : Nat) (s : Value) (W : World) : Prop := ∃ g p A c l, s = .pointer (some ⟨g, 0, none⟩) ∧ hi < g ∧ Two W g (.bool p) (.slice A l.length c) ∧ Cn W p A c l x n

set_option maxRecDepth 100000 in
set_option maxHeartbeats 2000000 in
theorem rradd {p1 : Bool} {A1 : Option Addr} {c1 : Nat} {l1 : List Nat} {q1 : Bool} {B1 : Option Addr} {d1 : Nat} {m1 : List Nat} {z1 : Rat} {p2 : Bool} {A2 : Option Addr} {c2 : Nat} {l2 : List Nat} {q2 : Bool} {B2 : Option Addr} {d2 : Nat} {m2 : List Nat} {z2 : Rat} {n k : Nat} {w : World} (h1 : Rv w p1 A1 c1 l1 q1 B1 d1 m1 z1 n) (h2 : Rv w p2 A2 c2 l2 q2 B2 d2 m2 z2 k) (hn : n ≤ 40) (hn1 : 1 ≤ n) (hk : k ≤ 40) (hk1 : 1 ≤ k) :
    Calls Tryz.prog 117 #[ratV p1 A1 l1.length c1 q1 B1 m1.length d1, ratV p2 A2 l2.length c2 q2 B2 m2.length d2] w (GR (z1 + z2) (n + k + 1) w) := by
  have HN1 := Lib.hid hn1
  obtain ⟨z, hz⟩ : ∃ z, z = z1 + z2 := ⟨_, rfl⟩
  rw [← hz]
  have HZ := Lib.hid hz
  clear hz
  have HN := Lib.hid hn
  have HK := Lib.hid hk
  have HM1 := Lib.hid (fun (W : World) (A : Option Addr) (c : Nat) (l : List Nat) (Bb : Option Addr) (d : Nat) (m : List Nat) (h : Cn W (decide (z1.num < 0)) A c l z1.num n) (h' : Cn W false Bb d m (z2.den : Int) k) => grmul h.iv h'.iv (by have := HN.out; have := HK.out; omega) (by have := HN.out; have := HK.out; omega))
  have HM2 := Lib.hid (fun (W : World) (A : Option Addr) (c : Nat) (l : List Nat) (Bb : Option Addr) (d : Nat) (m : List Nat) (h : Cn W (decide (z2.num < 0)) A c l z2.num k) (h' : Cn W false Bb d m (z1.den : Int) n) => grmul h.iv h'.iv (by have := HN.out; have := HK.out; omega) (by have := HN.out; have := HK.out; omega))
  have HM3 := Lib.hid (fun (W : World) (A : Option Addr) (c : Nat) (l : List Nat) (Bb : Option Addr) (d : Nat) (m : List Nat) (h : Cn W false A c l (z1.den : Int) n) (h' : Cn W false Bb d m (z2.den : Int) k) => grmul h.iv h'.iv (by have := HN.out; have := HK.out; omega) (by have := HN.out; have := HK.out; omega))
  have HAD := Lib.hid (fun (W : World) (pa : Bool) (Aa : Option Addr) (ca : Nat) (la : List Nat) (pb : Bool) (Ab : Option Addr) (cb : Nat) (lb : List Nat) (h : Cn W pa Aa ca la (z1.num * (z2.den : Int)) (n + k)) (h' : Cn W pb Ab cb lb (z2.num * (z1.den : Int)) (k + n)) => (by have h := gradd h.iv h'.iv (by have := HN.out; have := HK.out; omega) (by have := HN.out; have := HK.out; omega); rw [show max (n + k) (k + n) + 1 = n + k + 1 by omega] at h; exact h : Calls Tryz.prog 74 #[.agg #[.bool pa, .slice Aa la.length ca], .agg #[.bool pb, .slice Ab lb.length cb]] W (GI (z1.num * (z2.den : Int) + z2.num * (z1.den : Int)) (n + k + 1) W)))
  have HNW := Lib.hid (fun (W : World) (pa : Bool) (Aa : Option Addr) (ca : Nat) (la : List Nat) (pb : Bool) (Ab : Option Addr) (cb : Nat) (lb : List Nat) (h : Cn W pa Aa ca la (z1.num * (z2.den : Int) + z2.num * (z1.den : Int)) (n + k + 1)) (h' : Cn W pb Ab cb lb ((z1.den : Int) * (z2.den : Int)) (n + k)) => (by have h := grnew h.iv (h'.iv.more (Nat.le_succ _)) (Int.ne_of_gt (Int.mul_pos (rq_den_pos z1) (rq_den_pos z2))) (by have := HN.out; have := HK.out; omega) (by omega); rw [← Rat.divInt_add_divInt _ _ (by have := rq_den_pos z1; omega) (by have := rq_den_pos z2; omega), rq_self, rq_self, ← HZ.out] at h; exact h : Calls Tryz.prog 33 #[.agg #[.bool pa, .slice Aa la.length ca], .agg #[.bool pb, .slice Ab lb.length cb]] W (GRc z (n + k + 1) W)))
  obtain ⟨N, hN⟩ : ∃ N : Int, N = z1.num * (z2.den : Int) + z2.num * (z1.den : Int) := ⟨_, rfl⟩
  rw [← hN] at HAD HNW
  clear hN
  clear HN HK
  have HC1 := Lib.hid (fun (W : World) (h : Rv W p1 A1 c1 l1 q1 B1 d1 m1 z1 n) => rrcln h (by omega) hn1)
  have HC2 := Lib.hid (fun (W : World) (h : Rv W p2 A2 c2 l2 q2 B2 d2 m2 z2 k) => rrcln h (by omega) hk1)
  have HN := Lib.hid hn
  have HK := Lib.hid hk
  clear hn hn1 hk hk1
  unfold ratV
  go_enter Tryz.func117, Tryz.ntmps117
  go_wp2_with fail
  have t1 : Four (((w.alloc (.cells #[.bool p1, .slice A1 l1.length c1, .bool q1, .slice B1 m1.length d1] 26)).alloc (.cells #[.bool p2, .slice A2 l2.length c2, .bool q2, .slice B2 m2.length d2] 26)).alloc (.cells #[.bool false, .slice none 0 0, .bool false, .slice none 0 0] 26)) w.heap.size (.bool p1) (.slice A1 l1.length c1) (.bool q1) (.slice B1 m1.length d1) := ((Four.new_ w (.bool p1) (.slice A1 l1.length c1) (.bool q1) (.slice B1 m1.length d1) 26).alloc _).alloc _
  have t2 : Four (((w.alloc (.cells #[.bool p1, .slice A1 l1.length c1, .bool q1, .slice B1 m1.length d1] 26)).alloc (.cells #[.bool p2, .slice A2 l2.length c2, .bool q2, .slice B2 m2.length d2] 26)).alloc (.cells #[.bool false, .slice none 0 0, .bool false, .slice none 0 0] 26)) (w.heap.size + 1) (.bool p2) (.slice A2 l2.length c2) (.bool q2) (.slice B2 m2.length d2) := by simpa only [World.size_alloc, Nat.add_assoc, Nat.reduceAdd] using (Four.new_ (w.alloc (.cells #[.bool p1, .slice A1 l1.length c1, .bool q1, .slice B1 m1.length d1] 26)) (.bool p2) (.slice A2 l2.length c2) (.bool q2) (.slice B2 m2.length d2) 26).alloc _
  have t3 : Four (((w.alloc (.cells #[.bool p1, .slice A1 l1.length c1, .bool q1, .slice B1 m1.length d1] 26)).alloc (.cells #[.bool p2, .slice A2 l2.length c2, .bool q2, .slice B2 m2.length d2] 26)).alloc (.cells #[.bool false, .slice none 0 0, .bool false, .slice none 0 0] 26)) (w.heap.size + 2) (.bool false) (.slice none 0 0) (.bool false) (.slice none 0 0) := by simpa only [World.size_alloc, Nat.add_assoc, Nat.reduceAdd] using Four.new_ ((w.alloc (.cells #[.bool p1, .slice A1 l1.length c1, .bool q1, .slice B1 m1.length d1] 26)).alloc (.cells #[.bool p2, .slice A2 l2.length c2, .bool q2, .slice B2 m2.length d2] 26)) (.bool false) (.slice none 0 0) (.bool false) (.slice none 0 0) 26
  have bel : Below w.heap.size w (((w.alloc (.cells #[.bool p1, .slice A1 l1.length c1, .bool q1, .slice B1 m1.length d1] 26)).alloc (.cells #[.bool p2, .slice A2 l2.length c2, .bool q2, .slice B2 m2.length d2] 26)).alloc (.cells #[.bool false, .slice none 0 0, .bool false, .slice none 0 0] 26)) := (((Below.refl _ _).alloc (Nat.le_refl _) _).alloc (by simp only [World.size_alloc]; omega) _).alloc (by simp only [World.size_alloc]; omega) _
  generalize (((w.alloc (.cells #[.bool p1, .slice A1 l1.length c1, .bool q1, .slice B1 m1.length d1] 26)).alloc (.cells #[.bool p2, .slice A2 l2.length c2, .bool q2, .slice B2 m2.length d2] 26)).alloc (.cells #[.bool false, .slice none 0 0, .bool false, .slice none 0 0] 26)) = wx at t1 t2 t3 bel ⊢
  have X := h1.below bel
  have t1_0 := t1.c0
  have t1_1 := t1.c1
  have t1_2 := t1.c2
  have t1_3 := t1.c3
  go_wp2_with fail
  refine (HC1.out _ X).mono ?_
  rintro e w2 ⟨A5, c5, l5, B5, d5, m5, rfl, C1, hb⟩
  clear t1_0 t1_1 t1_2 t1_3
  clear t1
  replace t2 := t2.below hb t2.lt
  replace t3 := t3.below hb t3.lt
  replace bel := bel.trans (hb.mono bel.size)
  clear hb
  clear X
  go_upto_region 2 with (fail)
  have hg5 : w.heap.size + 2 < w2.heap.size := t3.lt
  have t5 : Four (w2.alloc (.cells #[.bool (decide (z1.num < 0)), .slice A5 l5.length c5, .bool false, .slice B5 m5.length d5] 26)) w2.heap.size (.bool (decide (z1.num < 0))) (.slice A5 l5.length c5) (.bool false) (.slice B5 m5.length d5) := Four.new_ w2 (.bool (decide (z1.num < 0))) (.slice A5 l5.length c5) (.bool false) (.slice B5 m5.length d5) 26
  have bn : Below w2.heap.size w2 (w2.alloc (.cells #[.bool (decide (z1.num < 0)), .slice A5 l5.length c5, .bool false, .slice B5 m5.length d5] 26)) := (Below.refl _ _).alloc (Nat.le_refl _) _
  replace t2 := t2.below bn t2.lt
  replace t3 := t3.below bn t3.lt
  replace bel := bel.trans (bn.mono bel.size)
  replace C1 := C1.below bn
  clear bn
  generalize (w2.alloc (.cells #[.bool (decide (z1.num < 0)), .slice A5 l5.length c5, .bool false, .slice B5 m5.length d5] 26)) = v1 at t2 t3 bel C1 t5 ⊢
  generalize w2.heap.size = g5 at t2 t3 bel C1 t5 hg5 ⊢
  have Y := h2.below bel
  have t2_0 := t2.c0
  have t2_1 := t2.c1
  have t2_2 := t2.c2
  have t2_3 := t2.c3
  go_wp2_with fail
  refine (HC2.out _ Y).mono ?_
  rintro e w3 ⟨A6, c6, l6, B6, d6, m6, rfl, C2, hb⟩
  clear t2_0 t2_1 t2_2 t2_3
  clear t2
  replace t3 := t3.below hb t3.lt
  replace bel := bel.trans (hb.mono bel.size)
  replace C1 := C1.below hb
  replace t5 := t5.below hb t5.lt
  clear hb
  clear Y
  go_upto_region 3 with (fail)
  have hg6 : g5 < w3.heap.size := t5.lt
  have t6 : Four (w3.alloc (.cells #[.bool (decide (z2.num < 0)), .slice A6 l6.length c6, .bool false, .slice B6 m6.length d6] 26)) w3.heap.size (.bool (decide (z2.num < 0))) (.slice A6 l6.length c6) (.bool false) (.slice B6 m6.length d6) := Four.new_ w3 (.bool (decide (z2.num < 0))) (.slice A6 l6.length c6) (.bool false) (.slice B6 m6.length d6) 26
  have bn : Below w3.heap.size w3 (w3.alloc (.cells #[.bool (decide (z2.num < 0)), .slice A6 l6.length c6, .bool false, .slice B6 m6.length d6] 26)) := (Below.refl _ _).alloc (Nat.le_refl _) _
  replace t3 := t3.below bn t3.lt
  replace bel := bel.trans (bn.mono bel.size)
  replace C1 := C1.below bn
  replace t5 := t5.below bn t5.lt
  replace C2 := C2.below bn
  clear bn
  generalize (w3.alloc (.cells #[.bool (decide (z2.num < 0)), .slice A6 l6.length c6, .bool false, .slice B6 m6.length d6] 26)) = v2 at t3 bel C1 t5 C2 t6 ⊢
  generalize w3.heap.size = g6 at t3 bel C1 t5 C2 t6 hg6 ⊢
  go_cut [7] (fun s wx => Bn g6 N (n + k + 1) s wx ∧ Four wx (w.heap.size + 2) (.bool false) (.slice none 0 0) (.bool false) (.slice none 0 0) ∧ Four wx g5 (.bool (decide (z1.num < 0))) (.slice A5 l5.length c5) (.bool false) (.slice B5 m5.length d5) ∧ Four wx g6 (.bool (decide (z2.num < 0))) (.slice A6 l6.length c6) (.bool false) (.slice B6 m6.length d6) ∧ Cr wx A5 c5 l5 B5 d5 m5 z1 n ∧ Cr wx A6 c6 l6 B6 d6 m6 z2 k ∧ Below w.heap.size w wx)
  case first =>
    have zz := t6.lt
    have zzt5 := t5.lt
    go_region_held3 (fun w' => w'.cell? ⟨g5, 0, none⟩ = some (.bool (decide (z1.num < 0))) ∧ w'.cell? ⟨g5, 1, none⟩ = some (.slice A5 l5.length c5) ∧ w'.cell? ⟨g5, 2, none⟩ = some (.bool false) ∧ w'.cell? ⟨g5, 3, none⟩ = some (.slice B5 m5.length d5) ∧ w'.cell? ⟨g6, 0, none⟩ = some (.bool (decide (z2.num < 0))) ∧ w'.cell? ⟨g6, 1, none⟩ = some (.slice A6 l6.length c6) ∧ w'.cell? ⟨g6, 2, none⟩ = some (.bool false) ∧ w'.cell? ⟨g6, 3, none⟩ = some (.slice B6 m6.length d6))
      ((repeat' (first | (with_reducible refine And.intro ?_ ?_) | (with_reducible refine far4c ?_ ?_) | (with_reducible refine far2c ?_ ?_) | (with_reducible refine cell_allocc ?_) | (with_reducible refine cell_drewc ?_))) <;> (first | (with_reducible exact t5.c0) | (with_reducible exact t5.c1) | (with_reducible exact t5.c2) | (with_reducible exact t5.c3) | (with_reducible exact t6.c0) | (with_reducible exact t6.c1) | (with_reducible exact t6.c2) | (with_reducible exact t6.c3) | omega | (simp; omega)))
      (first
        | (go_at_call 75; (first | ((with_reducible refine (HM1.out _ _ _ _ _ _ _ (C1.below (bq_d _)).a (C2.below (bq_d _)).b).mono ?_); rintro e wa ⟨p7, A7, c7, l7, rfl, E7, hb⟩; have hq := bq (bq_d _) hb; replace t3 := t3.below hq t3.lt; replace t5 := t5.below hq t5.lt; replace t6 := t6.below hq t6.lt; replace C1 := C1.below hq; replace C2 := C2.below hq; replace bel := bel.trans (hq.mono bel.size); have zzt50 := t5.lt; have zzt60 := t6.lt; clear hb hq) | ((with_reducible refine (HM1.out _ _ _ _ _ _ _ (C1.below (bq_da _ _)).a (C2.below (bq_da _ _)).b).mono ?_); rintro e wa ⟨p7, A7, c7, l7, rfl, E7, hb⟩; have tN := ((Two.new_ _ (.bool false) (.slice none 0 0) 24).drew).below hb ((Two.new_ _ (.bool false) (.slice none 0 0) 24).drew).lt; have hq := bq (bq_da _ _) hb; replace t3 := t3.below hq t3.lt; replace t5 := t5.below hq t5.lt; replace t6 := t6.below hq t6.lt; replace C1 := C1.below hq; replace C2 := C2.below hq; replace bel := bel.trans (hq.mono bel.size); have zzt50 := t5.lt; have zzt60 := t6.lt; clear hb hq)))
        | (go_at_call 75; (first | ((with_reducible refine (HM2.out _ _ _ _ _ _ _ (C2.below (bq_r _)).a (C1.below (bq_r _)).b).mono ?_); rintro e wa ⟨p8, A8, c8, l8, rfl, E8, hb⟩; have hq := bq (bq_r _) hb; replace t3 := t3.below hq t3.lt; replace t5 := t5.below hq t5.lt; replace t6 := t6.below hq t6.lt; replace C1 := C1.below hq; replace C2 := C2.below hq; replace bel := bel.trans (hq.mono bel.size); replace E7 := E7.below hq; (try replace tN := tN.below hb tN.lt); have zzt51 := t5.lt; have zzt61 := t6.lt; clear hb hq) | ((with_reducible refine (HM2.out _ _ _ _ _ _ _ (C2.below (al1 _ _)).a (C1.below (al1 _ _)).b).mono ?_); rintro e wa ⟨p8, A8, c8, l8, rfl, E8, hb⟩; have tN := ((Two.new_ _ (.bool false) (.slice none 0 0) 24)).below hb ((Two.new_ _ (.bool false) (.slice none 0 0) 24)).lt; have hq := bq (al1 _ _) hb; replace t3 := t3.below hq t3.lt; replace t5 := t5.below hq t5.lt; replace t6 := t6.below hq t6.lt; replace C1 := C1.below hq; replace C2 := C2.below hq; replace bel := bel.trans (hq.mono bel.size); replace E7 := E7.below hq; have zzt51 := t5.lt; have zzt61 := t6.lt; clear hb hq)))
        | (go_at_call 74; (first | ((with_reducible refine (HAD.out _ _ _ _ _ _ _ _ _ (E7.below (bq_r _)) (E8.below (bq_r _))).mono ?_); rintro e wa ⟨p9, A9, c9, l9, rfl, CC, hb⟩; have hq := bq (bq_r _) hb; replace t3 := t3.below hq t3.lt; replace t5 := t5.below hq t5.lt; replace t6 := t6.below hq t6.lt; replace C1 := C1.below hq; replace C2 := C2.below hq; replace bel := bel.trans (hq.mono bel.size); replace E7 := E7.below hq; replace E8 := E8.below hq; (try replace tN := tN.below hb tN.lt); have zzt52 := t5.lt; have zzt62 := t6.lt; (try have n0 := tN.c0); (try have n1 := tN.c1); (try have m0 := tN.fr 0); (try have m1 := tN.fr 1); (try have hg := tN.lt); clear hb hq) | ((with_reducible refine (HAD.out _ _ _ _ _ _ _ _ _ (E7.below (al1 _ _)) (E8.below (al1 _ _))).mono ?_); rintro e wa ⟨p9, A9, c9, l9, rfl, CC, hb⟩; have tN := ((Two.new_ _ (.bool false) (.slice none 0 0) 24)).below hb ((Two.new_ _ (.bool false) (.slice none 0 0) 24)).lt; have hq := bq (al1 _ _) hb; replace t3 := t3.below hq t3.lt; replace t5 := t5.below hq t5.lt; replace t6 := t6.below hq t6.lt; replace C1 := C1.below hq; replace C2 := C2.below hq; replace bel := bel.trans (hq.mono bel.size); replace E7 := E7.below hq; replace E8 := E8.below hq; have zzt52 := t5.lt; have zzt62 := t6.lt; (try have n0 := tN.c0); (try have n1 := tN.c1); (try have m0 := tN.fr 0); (try have m1 := tN.fr 1); (try have hg := tN.lt); clear hb hq))))
    all_goals
      go_wp2_with fail
      go_meet
      first
        | exact ⟨⟨_, _, _, _, _, rfl, by omega, Two.new_ _ _ _ _, CC.alloc _⟩, t3.alloc _, t5.alloc _, t6.alloc _, C1.alloc _, C2.alloc _, bel.alloc bel.size _⟩
        | exact ⟨⟨_, _, _, _, _, rfl, by omega, tN.put2 _ _, CC.put2 tN _ _⟩, t3.far2 (by omega) _ _, t5.far2 (by omega) _ _, t6.far2 (by omega) _ _, C1.put2 tN _ _, C2.put2 tN _ _, below_set2 bel (by omega) _ _⟩
  case rest =>
    obtain ⟨⟨g7, p7, A7, c7, l7, rfl, hg7, t7, E7⟩, t3, t5, t6, C1, C2, bel⟩ := hcut
    go_upto_region 4 with (fail)
    go_cut [8] (fun s wx => Bx (w.heap.size + 2) z (n + k + 1) s wx ∧ Four wx (w.heap.size + 2) (.bool false) (.slice none 0 0) (.bool false) (.slice none 0 0) ∧ Below w.heap.size w wx)
    case first =>
      have zz := t7.lt
      have zzt5 := t5.lt
      have zzt6 := t6.lt
      go_region_held3 (fun w' => w'.cell? ⟨g5, 0, none⟩ = some (.bool (decide (z1.num < 0))) ∧ w'.cell? ⟨g5, 1, none⟩ = some (.slice A5 l5.length c5) ∧ w'.cell? ⟨g5, 2, none⟩ = some (.bool false) ∧ w'.cell? ⟨g5, 3, none⟩ = some (.slice B5 m5.length d5) ∧ w'.cell? ⟨g6, 0, none⟩ = some (.bool (decide (z2.num < 0))) ∧ w'.cell? ⟨g6, 1, none⟩ = some (.slice A6 l6.length c6) ∧ w'.cell? ⟨g6, 2, none⟩ = some (.bool false) ∧ w'.cell? ⟨g6, 3, none⟩ = some (.slice B6 m6.length d6) ∧ w'.cell? ⟨g7, 0, none⟩ = some (.bool p7) ∧ w'.cell? ⟨g7, 1, none⟩ = some (.slice A7 l7.length c7))
        ((repeat' (first | (with_reducible refine And.intro ?_ ?_) | (with_reducible refine far4c ?_ ?_) | (with_reducible refine far2c ?_ ?_) | (with_reducible refine cell_allocc ?_) | (with_reducible refine cell_drewc ?_))) <;> (first | (with_reducible exact t5.c0) | (with_reducible exact t5.c1) | (with_reducible exact t5.c2) | (with_reducible exact t5.c3) | (with_reducible exact t6.c0) | (with_reducible exact t6.c1) | (with_reducible exact t6.c2) | (with_reducible exact t6.c3) | (with_reducible exact t7.c0) | (with_reducible exact t7.c1) | omega | (simp; omega)))
        (first
          | (go_at_call 75; (first | ((with_reducible refine (HM3.out _ _ _ _ _ _ _ (C1.below (bq_d _)).b (C2.below (bq_d _)).b).mono ?_); rintro e wa ⟨p8, A8, c8, l8, rfl, E8, hb⟩; have hq := bq (bq_d _) hb; replace t7 := t7.below hq t7.lt; replace t3 := t3.below hq t3.lt; replace t5 := t5.below hq t5.lt; replace t6 := t6.below hq t6.lt; replace E7 := E7.below hq; replace C1 := C1.below hq; replace C2 := C2.below hq; replace bel := bel.trans (hq.mono bel.size); have zzt50 := t5.lt; have zzt60 := t6.lt; have zzt70 := t7.lt; clear hb hq) | ((with_reducible refine (HM3.out _ _ _ _ _ _ _ (C1.below (bq_da _ _)).b (C2.below (bq_da _ _)).b).mono ?_); rintro e wa ⟨p8, A8, c8, l8, rfl, E8, hb⟩; have tN := ((Four.new_ _ (.bool false) (.slice none 0 0) (.bool false) (.slice none 0 0) 26).drew).below hb ((Four.new_ _ (.bool false) (.slice none 0 0) (.bool false) (.slice none 0 0) 26).drew).lt; have hq := bq (bq_da _ _) hb; replace t7 := t7.below hq t7.lt; replace t3 := t3.below hq t3.lt; replace t5 := t5.below hq t5.lt; replace t6 := t6.below hq t6.lt; replace E7 := E7.below hq; replace C1 := C1.below hq; replace C2 := C2.below hq; replace bel := bel.trans (hq.mono bel.size); have zzt50 := t5.lt; have zzt60 := t6.lt; have zzt70 := t7.lt; clear hb hq)))
          | (go_at_call 33; (first | ((with_reducible refine (HNW.out _ _ _ _ _ _ _ _ _ (E7.below (bq_r _)) (E8.below (bq_r _))).mono ?_); rintro e wa ⟨A9, c9, l9, B9, d9, m9, rfl, CC, hb⟩; have hq := bq (bq_r _) hb; replace t7 := t7.below hq t7.lt; replace t3 := t3.below hq t3.lt; replace t5 := t5.below hq t5.lt; replace t6 := t6.below hq t6.lt; replace E7 := E7.below hq; replace C1 := C1.below hq; replace C2 := C2.below hq; replace bel := bel.trans (hq.mono bel.size); replace E8 := E8.below hq; (try replace tN := tN.below hb tN.lt); have zzt51 := t5.lt; have zzt61 := t6.lt; have zzt71 := t7.lt; (try have n0 := tN.c0); (try have n1 := tN.c1); (try have m0 := tN.fr 0); (try have m1 := tN.fr 1); (try have n2 := tN.c2); (try have n3 := tN.c3); (try have m2 := tN.fr 2); (try have m3 := tN.fr 3); (try have hg := tN.lt); clear hb hq) | ((with_reducible refine (HNW.out _ _ _ _ _ _ _ _ _ (E7.below (al1 _ _)) (E8.below (al1 _ _))).mono ?_); rintro e wa ⟨A9, c9, l9, B9, d9, m9, rfl, CC, hb⟩; have tN := ((Four.new_ _ (.bool false) (.slice none 0 0) (.bool false) (.slice none 0 0) 26)).below hb ((Four.new_ _ (.bool false) (.slice none 0 0) (.bool false) (.slice none 0 0) 26)).lt; have hq := bq (al1 _ _) hb; replace t7 := t7.below hq t7.lt; replace t3 := t3.below hq t3.lt; replace t5 := t5.below hq t5.lt; replace t6 := t6.below hq t6.lt; replace E7 := E7.below hq; replace C1 := C1.below hq; replace C2 := C2.below hq; replace bel := bel.trans (hq.mono bel.size); replace E8 := E8.below hq; have zzt51 := t5.lt; have zzt61 := t6.lt; have zzt71 := t7.lt; (try have n0 := tN.c0); (try have n1 := tN.c1); (try have m0 := tN.fr 0); (try have m1 := tN.fr 1); (try have n2 := tN.c2); (try have n3 := tN.c3); (try have m2 := tN.fr 2); (try have m3 := tN.fr 3); (try have hg := tN.lt); clear hb hq))))
      all_goals
        go_wp2_with fail
        go_meet
        first
          | exact ⟨⟨_, _, _, _, _, _, _, rfl, by omega, Four.new_ _ _ _ _ _ _, CC.alloc _⟩, t3.alloc _, bel.alloc bel.size _⟩
          | exact ⟨⟨_, _, _, _, _, _, _, rfl, by omega, tN.put _ _ _ _, CC.put4 tN _ _ _ _⟩, t3.far4 (by omega) _ _ _ _, below_set4 bel (by omega) _ _ _ _⟩
    case rest =>
      obtain ⟨⟨g9, A9, c9, l9, B9, d9, m9, rfl, hg9, t9, C9⟩, t3, bel⟩ := hcut
      have e0 := t9.c0
      have e1 := t9.c1
      have e2 := t9.c2
      have e3 := t9.c3
      have d0 := t3.c0
      have d1 := t3.c1
      have d2 := t3.c2
      have d3 := t3.c3
      have f0 := t3.fr 0
      have f1 := t3.fr 1
      have f2 := t3.fr 2
      have f3 := t3.fr 3
      have R := Lib.hid (t3.put (.bool (decide (z.num < 0))) (.slice A9 l9.length c9) (.bool false) (.slice B9 m9.length d9))
      have CR := Lib.hid (C9.put4 t3 (.bool (decide (z.num < 0))) (.slice A9 l9.length c9) (.bool false) (.slice B9 m9.length d9))
      have BL := Lib.hid (below_set4 bel (b := w.heap.size + 2) (by omega) (.bool (decide (z.num < 0))) (.slice A9 l9.length c9) (.bool false) (.slice B9 m9.length d9))
      clear t9 t3 C9 bel
      go_wp2_with fail
      have r0 := R.out.c0
      have r1 := R.out.c1
      have r2 := R.out.c2
      have r3 := R.out.c3
      unfold set4 at r0 r1 r2 r3
      refine bodyPost_ret (v := .agg #[.bool (decide (z.num < 0)), .slice A9 l9.length c9, .bool false, .slice B9 m9.length d9]) (by simp [results, Tryz.results117, go_sem, r0, r1, r2, r3]) rfl ?_
      exact ⟨A9, c9, l9, B9, d9, m9, rfl, CR.out, BL.out⟩
end Go.Proofs.YtkpomjdablopaaaGreatDoor
/- Walks of package rational: Sub of the reference. -/
namespace Go.Proofs.YtkpomjdablopaaaGreatDoor
open Go.RowKit
set_option linter.unusedVariables false

set_option maxRecDepth 100000 in
set_option maxHeartbeats 2000000 in
theorem rrsub {p1 : Bool} {A1 : Option Addr} {c1 : Nat} {l1 : List Nat} {q1 : Bool} {B1 : Option Addr} {d1 : Nat} {m1 : List Nat} {z1 : Rat} {p2 : Bool} {A2 : Option Addr} {c2 : Nat} {l2 : List Nat} {q2 : Bool} {B2 : Option Addr} {d2 : Nat} {m2 : List Nat} {z2 : Rat} {n k : Nat} {w : World} (h1 : Rv w p1 A1 c1 l1 q1 B1 d1 m1 z1 n) (h2 : Rv w p2 A2 c2 l2 q2 B2 d2 m2 z2 k) (hn : n ≤ 40) (hn1 : 1 ≤ n) (hk : k ≤ 40) (hk1 : 1 ≤ k) :
    Calls Tryz.prog 80 #[ratV p1 A1 l1.length c1 q1 B1 m1.length d1, ratV p2 A2 l2.length c2 q2 B2 m2.length d2] w (GR (z1 - z2) (n + k + 1) w) := by
  obtain ⟨z, hz⟩ : ∃ z, z = z1 - z2 := ⟨_, rfl⟩
  rw [← hz]
  have HNG := Lib.hid (fun (W : World) (h : Rv W p2 A2 c2 l2 q2 B2 d2 m2 z2 k) => (rrneg h (by omega) hk1 : Calls Tryz.prog 118 #[.agg #[.bool p2, .slice A2 l2.length c2, .bool q2, .slice B2 m2.length d2]] W (GR (-z2) k W)))
  have HAD := Lib.hid (fun (W : World) (A : Option Addr) (c : Nat) (l : List Nat) (Bb : Option Addr) (d : Nat) (m : List Nat) (h : Rv W p1 A1 c1 l1 q1 B1 d1 m1 z1 n) (h' : Cr W A c l Bb d m (-z2) k) => (by have h := rradd h h'.rv hn hn1 hk hk1; rw [← Rat.sub_eq_add_neg, ← hz] at h; exact h : Calls Tryz.prog 117 #[.agg #[.bool p1, .slice A1 l1.length c1, .bool q1, .slice B1 m1.length d1], .agg #[.bool (decide ((-z2).num < 0)), .slice A l.length c, .bool false, .slice Bb m.length d]] W (GR z (n + k + 1) W)))
  obtain ⟨zn, hzn⟩ : ∃ y, y = -z2 := ⟨_, rfl⟩
  rw [← hzn] at HNG HAD
  clear hzn hz hn hn1 hk hk1
  unfold ratV
  go_enter Tryz.func80, Tryz.ntmps80
  go_wp2_with fail
  have t1 : Four (((w.alloc (.cells #[.bool p1, .slice A1 l1.length c1, .bool q1, .slice B1 m1.length d1] 26)).alloc (.cells #[.bool p2, .slice A2 l2.length c2, .bool q2, .slice B2 m2.length d2] 26)).alloc (.cells #[.bool false, .slice none 0 0, .bool false, .slice none 0 0] 26)) w.heap.size (.bool p1) (.slice A1 l1.length c1) (.bool q1) (.slice B1 m1.length d1) := ((Four.new_ w (.bool p1) (.slice A1 l1.length c1) (.bool q1) (.slice B1 m1.length d1) 26).alloc _).alloc _
  have t2 : Four (((w.alloc (.cells #[.bool p1, .slice A1 l1.length c1, .bool q1, .slice B1 m1.length d1] 26)).alloc (.cells #[.bool p2, .slice A2 l2.length c2, .bool q2, .slice B2 m2.length d2] 26)).alloc (.cells #[.bool false, .slice none 0 0, .bool false, .slice none 0 0] 26)) (w.heap.size + 1) (.bool p2) (.slice A2 l2.length c2) (.bool q2) (.slice B2 m2.length d2) := by simpa only [World.size_alloc, Nat.add_assoc, Nat.reduceAdd] using (Four.new_ (w.alloc (.cells #[.bool p1, .slice A1 l1.length c1, .bool q1, .slice B1 m1.length d1] 26)) (.bool p2) (.slice A2 l2.length c2) (.bool q2) (.slice B2 m2.length d2) 26).alloc _
  have t3 : Four (((w.alloc (.cells #[.bool p1, .slice A1 l1.length c1, .bool q1, .slice B1 m1.length d1] 26)).alloc (.cells #[.bool p2, .slice A2 l2.length c2, .bool q2, .slice B2 m2.length d2] 26)).alloc (.cells #[.bool false, .slice none 0 0, .bool false, .slice none 0 0] 26)) (w.heap.size + 2) (.bool false) (.slice none 0 0) (.bool false) (.slice none 0 0) := by simpa only [World.size_alloc, Nat.add_assoc, Nat.reduceAdd] using Four.new_ ((w.alloc (.cells #[.bool p1, .slice A1 l1.length c1, .bool q1, .slice B1 m1.length d1] 26)).alloc (.cells #[.bool p2, .slice A2 l2.length c2, .bool q2, .slice B2 m2.length d2] 26)) (.bool false) (.slice none 0 0) (.bool false) (.slice none 0 0) 26
  have bel : Below w.heap.size w (((w.alloc (.cells #[.bool p1, .slice A1 l1.length c1, .bool q1, .slice B1 m1.length d1] 26)).alloc (.cells #[.bool p2, .slice A2 l2.length c2, .bool q2, .slice B2 m2.length d2] 26)).alloc (.cells #[.bool false, .slice none 0 0, .bool false, .slice none 0 0] 26)) := (((Below.refl _ _).alloc (Nat.le_refl _) _).alloc (by simp only [World.size_alloc]; omega) _).alloc (by simp only [World.size_alloc]; omega) _
  generalize (((w.alloc (.cells #[.bool p1, .slice A1 l1.length c1, .bool q1, .slice B1 m1.length d1] 26)).alloc (.cells #[.bool p2, .slice A2 l2.length c2, .bool q2, .slice B2 m2.length d2] 26)).alloc (.cells #[.bool false, .slice none 0 0, .bool false, .slice none 0 0] 26)) = wx at t1 t2 t3 bel ⊢
  have X := h1.below bel
  have Y := h2.below bel
  replace t1 := t1.drew
  replace t2 := t2.drew
  replace t3 := t3.drew
  replace bel := bDrew1 bel
  replace X := X.drew
  replace Y := Y.drew
  go_region_held3 (fun w' => w'.cell? ⟨w.heap.size, 0, none⟩ = some (.bool p1) ∧ w'.cell? ⟨w.heap.size, 1, none⟩ = some (.slice A1 l1.length c1) ∧ w'.cell? ⟨w.heap.size, 2, none⟩ = some (.bool q1) ∧ w'.cell? ⟨w.heap.size, 3, none⟩ = some (.slice B1 m1.length d1) ∧ w'.cell? ⟨w.heap.size + 1, 0, none⟩ = some (.bool p2) ∧ w'.cell? ⟨w.heap.size + 1, 1, none⟩ = some (.slice A2 l2.length c2) ∧ w'.cell? ⟨w.heap.size + 1, 2, none⟩ = some (.bool q2) ∧ w'.cell? ⟨w.heap.size + 1, 3, none⟩ = some (.slice B2 m2.length d2))
    (first | with_reducible exact ⟨t1.c0, t1.c1, t1.c2, t1.c3, t2.c0, t2.c1, t2.c2, t2.c3⟩ | exact ⟨K0.out.c0, K0.out.c1, K0.out.c2, K0.out.c3, K1.out.c0, K1.out.c1, K1.out.c2, K1.out.c3⟩)
    (first
      | (go_at_call 118; (with_reducible refine (HNG.out _ Y).mono ?_); rintro e wa ⟨A7, c7, l7, B7, d7, m7, rfl, E7, hb⟩; replace t1 := t1.below hb t1.lt; replace t2 := t2.below hb t2.lt; replace t3 := t3.below hb t3.lt; replace bel := bel.trans (hb.mono bel.size); replace X := X.below hb; replace Y := Y.below hb; clear hb)
      | (go_at_call 117; (with_reducible refine (HAD.out _ _ _ _ _ _ _ X E7).mono ?_); rintro e wa ⟨A9, c9, l9, B9, d9, m9, rfl, CC, hb⟩; replace t1 := t1.below hb t1.lt; replace t2 := t2.below hb t2.lt; replace t3 := t3.below hb t3.lt; replace bel := bel.trans (hb.mono bel.size); replace X := X.below hb; replace Y := Y.below hb; clear hb
         have e0 := t3.c0
         have f0 := t3.fr 0
         have e1 := t3.c1
         have f1 := t3.fr 1
         have e2 := t3.c2
         have f2 := t3.fr 2
         have e3 := t3.c3
         have f3 := t3.fr 3
         have K0 := Lib.hid (t1.far4 (g := w.heap.size + 2) (by omega) (.bool (decide (z.num < 0))) (.slice A9 l9.length c9) (.bool false) (.slice B9 m9.length d9))
         have K1 := Lib.hid (t2.far4 (g := w.heap.size + 2) (by omega) (.bool (decide (z.num < 0))) (.slice A9 l9.length c9) (.bool false) (.slice B9 m9.length d9))
         have R := Lib.hid (t3.put (.bool (decide (z.num < 0))) (.slice A9 l9.length c9) (.bool false) (.slice B9 m9.length d9))
         have CR := Lib.hid (CC.put4 t3 (.bool (decide (z.num < 0))) (.slice A9 l9.length c9) (.bool false) (.slice B9 m9.length d9))
         have BL := Lib.hid (below_set4 bel (b := w.heap.size + 2) (by omega) (.bool (decide (z.num < 0))) (.slice A9 l9.length c9) (.bool false) (.slice B9 m9.length d9))))
  go_wp2_with fail
  have r0 := R.out.c0
  have r1 := R.out.c1
  have r2 := R.out.c2
  have r3 := R.out.c3
  unfold set4 at r0 r1 r2 r3
  refine bodyPost_ret (v := .agg #[.bool (decide (z.num < 0)), .slice A9 l9.length c9, .bool false, .slice B9 m9.length d9]) (by simp [results, Tryz.results80, go_sem, r0, r1, r2, r3]) rfl ?_
  exact ⟨A9, c9, l9, B9, d9, m9, rfl, CR.out, BL.out⟩
end Go.Proofs.YtkpomjdablopaaaGreatDoor
/- Walks of package rational: Sign of the reference. -/
namespace Go.Proofs.YtkpomjdablopaaaGreatDoor
open Go.RowKit
set_option linter.unusedVariables false

set_option maxRecDepth 100000 in
set_option maxHeartbeats 1500000 in
theorem rrsgn_z {p1 : Bool} {A1 : Option Addr} {c1 : Nat} {l1 : List Nat} {q1 : Bool} {B1 : Option Addr} {d1 : Nat} {m1 : List Nat} {z1 : Rat} {n : Nat} {w : World} (h1 : Rv w p1 A1 c1 l1 q1 B1 d1 m1 z1 n) (hn : n ≤ 100) (hn1 : 1 ≤ n) (hs : z1.num = 0) :
    Calls Tryz.prog 42 #[ratV p1 A1 l1.length c1 q1 B1 m1.length d1] w fun e w' => e = .returned (.int .i64 (0)) ∧ Below w.heap.size w w' := by
  have HCL := Lib.hid (fun (W : World) (h : Rv W p1 A1 c1 l1 q1 B1 d1 m1 z1 n) => rrcln h hn hn1)
  have HZR := Lib.hid (fun (W : World) (A : Option Addr) (c : Nat) (l : List Nat) (h : Cn W (decide (z1.num < 0)) A c l z1.num n) => (by have h := grz h.iv hn; rwa [decide_eq_true (show z1.num = 0 from hs)] at h : Calls Tryz.prog 71 #[.agg #[.bool (decide (z1.num < 0)), .slice A l.length c]] W fun e w' => e = .returned (.bool true) ∧ Below W.heap.size W w'))
  clear hn hn1 hs
  unfold ratV
  go_enter Tryz.func42, Tryz.ntmps42
  go_wp2_with fail
  have t1 : Four (w.alloc (.cells #[.bool p1, .slice A1 l1.length c1, .bool q1, .slice B1 m1.length d1] 26)) w.heap.size (.bool p1) (.slice A1 l1.length c1) (.bool q1) (.slice B1 m1.length d1) := Four.new_ w (.bool p1) (.slice A1 l1.length c1) (.bool q1) (.slice B1 m1.length d1) 26
  have bel : Below w.heap.size w (w.alloc (.cells #[.bool p1, .slice A1 l1.length c1, .bool q1, .slice B1 m1.length d1] 26)) := (Below.refl _ _).alloc (Nat.le_refl _) _
  generalize (w.alloc (.cells #[.bool p1, .slice A1 l1.length c1, .bool q1, .slice B1 m1.length d1] 26)) = wx at t1 bel ⊢
  have X := h1.below bel
  have t1_0 := t1.c0
  have t1_1 := t1.c1
  have t1_2 := t1.c2
  have t1_3 := t1.c3
  go_wp2_with fail
  refine (HCL.out _ X).mono ?_
  rintro e w2 ⟨A5, c5, l5, B5, d5, m5, rfl, C1, hb⟩
  clear t1_0 t1_1 t1_2 t1_3
  replace t1 := t1.below hb t1.lt
  replace bel := bel.trans (hb.mono bel.size)
  clear hb
  clear X
  go_upto_region 2 with (fail)
  have hg3 : w.heap.size < w2.heap.size := t1.lt
  have t3 : Four (w2.alloc (.cells #[.bool (decide (z1.num < 0)), .slice A5 l5.length c5, .bool false, .slice B5 m5.length d5] 26)) w2.heap.size (.bool (decide (z1.num < 0))) (.slice A5 l5.length c5) (.bool false) (.slice B5 m5.length d5) := Four.new_ w2 (.bool (decide (z1.num < 0))) (.slice A5 l5.length c5) (.bool false) (.slice B5 m5.length d5) 26
  have bn : Below w2.heap.size w2 (w2.alloc (.cells #[.bool (decide (z1.num < 0)), .slice A5 l5.length c5, .bool false, .slice B5 m5.length d5] 26)) := (Below.refl _ _).alloc (Nat.le_refl _) _
  replace t1 := t1.below bn t1.lt
  replace bel := bel.trans (bn.mono bel.size)
  replace C1 := C1.below bn
  clear bn
  generalize (w2.alloc (.cells #[.bool (decide (z1.num < 0)), .slice A5 l5.length c5, .bool false, .slice B5 m5.length d5] 26)) = v1 at t1 bel C1 t3 ⊢
  generalize w2.heap.size = g3 at t1 bel C1 t3 hg3 ⊢
  have t3_0 := t3.c0
  have t3_1 := t3.c1
  have t3_2 := t3.c2
  have t3_3 := t3.c3
  go_wp2_with fail
  refine (HZR.out _ _ _ _ C1.a).mono ?_
  rintro e w3 ⟨rfl, hb⟩
  clear t3_0 t3_1 t3_2 t3_3
  replace t1 := t1.below hb t1.lt
  replace bel := bel.trans (hb.mono bel.size)
  replace C1 := C1.below hb
  replace t3 := t3.below hb t3.lt
  clear hb
  go_wp2_with fail
  go_ret
  exact ⟨rfl, bel⟩

set_option maxRecDepth 100000 in
set_option maxHeartbeats 1500000 in
theorem rrsgn_p {p1 : Bool} {A1 : Option Addr} {c1 : Nat} {l1 : List Nat} {q1 : Bool} {B1 : Option Addr} {d1 : Nat} {m1 : List Nat} {z1 : Rat} {n : Nat} {w : World} (h1 : Rv w p1 A1 c1 l1 q1 B1 d1 m1 z1 n) (hn : n ≤ 100) (hn1 : 1 ≤ n) (hs : z1.num > 0) :
    Calls Tryz.prog 42 #[ratV p1 A1 l1.length c1 q1 B1 m1.length d1] w fun e w' => e = .returned (.int .i64 (1)) ∧ Below w.heap.size w w' := by
  have HCL := Lib.hid (fun (W : World) (h : Rv W p1 A1 c1 l1 q1 B1 d1 m1 z1 n) => rrcln h hn hn1)
  have HZR := Lib.hid (fun (W : World) (A : Option Addr) (c : Nat) (l : List Nat) (h : Cn W (decide (z1.num < 0)) A c l z1.num n) => (by have h := grz h.iv hn; rwa [decide_eq_false (show ¬ z1.num = 0 by omega)] at h : Calls Tryz.prog 71 #[.agg #[.bool (decide (z1.num < 0)), .slice A l.length c]] W fun e w' => e = .returned (.bool false) ∧ Below W.heap.size W w'))
  have GS : Hid (decide (z1.num < 0) = false) := Lib.hid (decide_eq_false (by omega))
  clear hn hn1 hs
  unfold ratV
  go_enter Tryz.func42, Tryz.ntmps42
  go_wp2_with fail
  have t1 : Four (w.alloc (.cells #[.bool p1, .slice A1 l1.length c1, .bool q1, .slice B1 m1.length d1] 26)) w.heap.size (.bool p1) (.slice A1 l1.length c1) (.bool q1) (.slice B1 m1.length d1) := Four.new_ w (.bool p1) (.slice A1 l1.length c1) (.bool q1) (.slice B1 m1.length d1) 26
  have bel : Below w.heap.size w (w.alloc (.cells #[.bool p1, .slice A1 l1.length c1, .bool q1, .slice B1 m1.length d1] 26)) := (Below.refl _ _).alloc (Nat.le_refl _) _
  generalize (w.alloc (.cells #[.bool p1, .slice A1 l1.length c1, .bool q1, .slice B1 m1.length d1] 26)) = wx at t1 bel ⊢
  have X := h1.below bel
  have t1_0 := t1.c0
  have t1_1 := t1.c1
  have t1_2 := t1.c2
  have t1_3 := t1.c3
  go_wp2_with fail
  refine (HCL.out _ X).mono ?_
  rintro e w2 ⟨A5, c5, l5, B5, d5, m5, rfl, C1, hb⟩
  clear t1_0 t1_1 t1_2 t1_3
  replace t1 := t1.below hb t1.lt
  replace bel := bel.trans (hb.mono bel.size)
  clear hb
  clear X
  go_upto_region 2 with (fail)
  have hg3 : w.heap.size < w2.heap.size := t1.lt
  have t3 : Four (w2.alloc (.cells #[.bool (decide (z1.num < 0)), .slice A5 l5.length c5, .bool false, .slice B5 m5.length d5] 26)) w2.heap.size (.bool (decide (z1.num < 0))) (.slice A5 l5.length c5) (.bool false) (.slice B5 m5.length d5) := Four.new_ w2 (.bool (decide (z1.num < 0))) (.slice A5 l5.length c5) (.bool false) (.slice B5 m5.length d5) 26
  have bn : Below w2.heap.size w2 (w2.alloc (.cells #[.bool (decide (z1.num < 0)), .slice A5 l5.length c5, .bool false, .slice B5 m5.length d5] 26)) := (Below.refl _ _).alloc (Nat.le_refl _) _
  replace t1 := t1.below bn t1.lt
  replace bel := bel.trans (bn.mono bel.size)
  replace C1 := C1.below bn
  clear bn
  generalize (w2.alloc (.cells #[.bool (decide (z1.num < 0)), .slice A5 l5.length c5, .bool false, .slice B5 m5.length d5] 26)) = v1 at t1 bel C1 t3 ⊢
  generalize w2.heap.size = g3 at t1 bel C1 t3 hg3 ⊢
  have t3_0 := t3.c0
  have t3_1 := t3.c1
  have t3_2 := t3.c2
  have t3_3 := t3.c3
  go_wp2_with fail
  refine (HZR.out _ _ _ _ C1.a).mono ?_
  rintro e w3 ⟨rfl, hb⟩
  clear t3_0 t3_1 t3_2 t3_3
  replace t1 := t1.below hb t1.lt
  replace bel := bel.trans (hb.mono bel.size)
  replace C1 := C1.below hb
  replace t3 := t3.below hb t3.lt
  clear hb
  have t3_0 := t3.c0
  have t3_1 := t3.c1
  have t3_2 := t3.c2
  have t3_3 := t3.c3
  rw [GS.out] at t3_0
  go_wp2_with fail
  go_ret
  exact ⟨rfl, bel⟩

set_option maxRecDepth 100000 in
set_option maxHeartbeats 1500000 in
theorem rrsgn_m {p1 : Bool} {A1 : Option Addr} {c1 : Nat} {l1 : List Nat} {q1 : Bool} {B1 : Option Addr} {d1 : Nat} {m1 : List Nat} {z1 : Rat} {n : Nat} {w : World} (h1 : Rv w p1 A1 c1 l1 q1 B1 d1 m1 z1 n) (hn : n ≤ 100) (hn1 : 1 ≤ n) (hs : z1.num < 0) :
    Calls Tryz.prog 42 #[ratV p1 A1 l1.length c1 q1 B1 m1.length d1] w fun e w' => e = .returned (.int .i64 (-1)) ∧ Below w.heap.size w w' := by
  have HCL := Lib.hid (fun (W : World) (h : Rv W p1 A1 c1 l1 q1 B1 d1 m1 z1 n) => rrcln h hn hn1)
  have HZR := Lib.hid (fun (W : World) (A : Option Addr) (c : Nat) (l : List Nat) (h : Cn W (decide (z1.num < 0)) A c l z1.num n) => (by have h := grz h.iv hn; rwa [decide_eq_false (show ¬ z1.num = 0 by omega)] at h : Calls Tryz.prog 71 #[.agg #[.bool (decide (z1.num < 0)), .slice A l.length c]] W fun e w' => e = .returned (.bool false) ∧ Below W.heap.size W w'))
  have GS : Hid (decide (z1.num < 0) = true) := Lib.hid (decide_eq_true hs)
  clear hn hn1 hs
  unfold ratV
  go_enter Tryz.func42, Tryz.ntmps42
  go_wp2_with fail
  have t1 : Four (w.alloc (.cells #[.bool p1, .slice A1 l1.length c1, .bool q1, .slice B1 m1.length d1] 26)) w.heap.size (.bool p1) (.slice A1 l1.length c1) (.bool q1) (.slice B1 m1.length d1) := Four.new_ w (.bool p1) (.slice A1 l1.length c1) (.bool q1) (.slice B1 m1.length d1) 26
  have bel : Below w.heap.size w (w.alloc (.cells #[.bool p1, .slice A1 l1.length c1, .bool q1, .slice B1 m1.length d1] 26)) := (Below.refl _ _).alloc (Nat.le_refl _) _
  generalize (w.alloc (.cells #[.bool p1, .slice A1 l1.length c1, .bool q1, .slice B1 m1.length d1] 26)) = wx at t1 bel ⊢
  have X := h1.below bel
  have t1_0 := t1.c0
  have t1_1 := t1.c1
  have t1_2 := t1.c2
  have t1_3 := t1.c3
  go_wp2_with fail
  refine (HCL.out _ X).mono ?_
  rintro e w2 ⟨A5, c5, l5, B5, d5, m5, rfl, C1, hb⟩
  clear t1_0 t1_1 t1_2 t1_3
  replace t1 := t1.below hb t1.lt
  replace bel := bel.trans (hb.mono bel.size)
  clear hb
  clear X
  go_upto_region 2 with (fail)
  have hg3 : w.heap.size < w2.heap.size := t1.lt
  have t3 : Four (w2.alloc (.cells #[.bool (decide (z1.num < 0)), .slice A5 l5.length c5, .bool false, .slice B5 m5.length d5] 26)) w2.heap.size (.bool (decide (z1.num < 0))) (.slice A5 l5.length c5) (.bool false) (.slice B5 m5.length d5) := Four.new_ w2 (.bool (decide (z1.num < 0))) (.slice A5 l5.length c5) (.bool false) (.slice B5 m5.length d5) 26
  have bn : Below w2.heap.size w2 (w2.alloc (.cells #[.bool (decide (z1.num < 0)), .slice A5 l5.length c5, .bool false, .slice B5 m5.length d5] 26)) := (Below.refl _ _).alloc (Nat.le_refl _) _
  replace t1 := t1.below bn t1.lt
  replace bel := bel.trans (bn.mono bel.size)
  replace C1 := C1.below bn
  clear bn
  generalize (w2.alloc (.cells #[.bool (decide (z1.num < 0)), .slice A5 l5.length c5, .bool false, .slice B5 m5.length d5] 26)) = v1 at t1 bel C1 t3 ⊢
  generalize w2.heap.size = g3 at t1 bel C1 t3 hg3 ⊢
  have t3_0 := t3.c0
  have t3_1 := t3.c1
  have t3_2 := t3.c2
  have t3_3 := t3.c3
  go_wp2_with fail
  refine (HZR.out _ _ _ _ C1.a).mono ?_
  rintro e w3 ⟨rfl, hb⟩
  clear t3_0 t3_1 t3_2 t3_3
  replace t1 := t1.below hb t1.lt
  replace bel := bel.trans (hb.mono bel.size)
  replace C1 := C1.below hb
  replace t3 := t3.below hb t3.lt
  clear hb
  have t3_0 := t3.c0
  have t3_1 := t3.c1
  have t3_2 := t3.c2
  have t3_3 := t3.c3
  rw [GS.out] at t3_0
  go_wp2_with fail
  go_ret
  exact ⟨rfl, bel⟩

theorem rrsgn {p1 : Bool} {A1 : Option Addr} {c1 : Nat} {l1 : List Nat} {q1 : Bool} {B1 : Option Addr} {d1 : Nat} {m1 : List Nat} {z1 : Rat} {n : Nat} {w : World} (h1 : Rv w p1 A1 c1 l1 q1 B1 d1 m1 z1 n) (hn : n ≤ 100) (hn1 : 1 ≤ n) :
    Calls Tryz.prog 42 #[ratV p1 A1 l1.length c1 q1 B1 m1.length d1] w fun e w' => e = .returned (.int .i64 z1.num.sign) ∧ Below w.heap.size w w' := by
  rcases Int.lt_trichotomy z1.num 0 with h | h | h
  · rw [Int.sign_eq_neg_one_of_neg h]; exact rrsgn_m h1 hn hn1 h
  · have e : z1.num.sign = 0 := by rw [h]; rfl
    rw [e]; exact rrsgn_z h1 hn hn1 h
  · rw [Int.sign_eq_one_of_pos h]; exact rrsgn_p h1 hn hn1 h
end Go.Proofs.YtkpomjdablopaaaGreatDoor
/- Walks of package rational: Compare of the reference. -/
namespace Go.Proofs.YtkpomjdablopaaaGreatDoor
open Go.RowKit
set_option linter.unusedVariables false

set_option maxRecDepth 100000 in
set_option maxHeartbeats 1500000 in
theorem rrcmp {p1 : Bool} {A1 : Option Addr} {c1 : Nat} {l1 : List Nat} {q1 : Bool} {B1 : Option Addr} {d1 : Nat} {m1 : List Nat} {z1 : Rat} {p2 : Bool} {A2 : Option Addr} {c2 : Nat} {l2 : List Nat} {q2 : Bool} {B2 : Option Addr} {d2 : Nat} {m2 : List Nat} {z2 : Rat} {n k : Nat} {w : World} (h1 : Rv w p1 A1 c1 l1 q1 B1 d1 m1 z1 n) (h2 : Rv w p2 A2 c2 l2 q2 B2 d2 m2 z2 k) (hn : n ≤ 40) (hn1 : 1 ≤ n) (hk : k ≤ 40) (hk1 : 1 ≤ k) :
    Calls Tryz.prog 43 #[ratV p1 A1 l1.length c1 q1 B1 m1.length d1, ratV p2 A2 l2.length c2 q2 B2 m2.length d2] w fun e w' => e = .returned (.int .i64 (z1 - z2).num.sign) ∧ Below w.heap.size w w' := by
  obtain ⟨z, hz⟩ : ∃ z, z = z1 - z2 := ⟨_, rfl⟩
  rw [← hz]
  have HSB := Lib.hid (fun (W : World) (h : Rv W p1 A1 c1 l1 q1 B1 d1 m1 z1 n) (h' : Rv W p2 A2 c2 l2 q2 B2 d2 m2 z2 k) => (by have h := rrsub h h' hn hn1 hk hk1; rw [← hz] at h; exact h : Calls Tryz.prog 80 #[.agg #[.bool p1, .slice A1 l1.length c1, .bool q1, .slice B1 m1.length d1], .agg #[.bool p2, .slice A2 l2.length c2, .bool q2, .slice B2 m2.length d2]] W (GR z (n + k + 1) W)))
  have HSG := Lib.hid (fun (W : World) (A : Option Addr) (c : Nat) (l : List Nat) (Bb : Option Addr) (d : Nat) (m : List Nat) (h : Cr W A c l Bb d m z (n + k + 1)) => (rrsgn h.rv (by omega) (by omega) : Calls Tryz.prog 42 #[.agg #[.bool (decide (z.num < 0)), .slice A l.length c, .bool false, .slice Bb m.length d]] W fun e w' => e = .returned (.int .i64 z.num.sign) ∧ Below W.heap.size W w'))
  clear hz hn hn1 hk hk1
  unfold ratV
  go_enter Tryz.func43, Tryz.ntmps43
  go_wp2_with fail
  have t1 : Four ((w.alloc (.cells #[.bool p1, .slice A1 l1.length c1, .bool q1, .slice B1 m1.length d1] 26)).alloc (.cells #[.bool p2, .slice A2 l2.length c2, .bool q2, .slice B2 m2.length d2] 26)) w.heap.size (.bool p1) (.slice A1 l1.length c1) (.bool q1) (.slice B1 m1.length d1) := (Four.new_ w (.bool p1) (.slice A1 l1.length c1) (.bool q1) (.slice B1 m1.length d1) 26).alloc _
  have t2 : Four ((w.alloc (.cells #[.bool p1, .slice A1 l1.length c1, .bool q1, .slice B1 m1.length d1] 26)).alloc (.cells #[.bool p2, .slice A2 l2.length c2, .bool q2, .slice B2 m2.length d2] 26)) (w.heap.size + 1) (.bool p2) (.slice A2 l2.length c2) (.bool q2) (.slice B2 m2.length d2) := by simpa only [World.size_alloc, Nat.add_assoc, Nat.reduceAdd] using Four.new_ (w.alloc (.cells #[.bool p1, .slice A1 l1.length c1, .bool q1, .slice B1 m1.length d1] 26)) (.bool p2) (.slice A2 l2.length c2) (.bool q2) (.slice B2 m2.length d2) 26
  have bel : Below w.heap.size w ((w.alloc (.cells #[.bool p1, .slice A1 l1.length c1, .bool q1, .slice B1 m1.length d1] 26)).alloc (.cells #[.bool p2, .slice A2 l2.length c2, .bool q2, .slice B2 m2.length d2] 26)) := ((Below.refl _ _).alloc (Nat.le_refl _) _).alloc (by simp only [World.size_alloc]; omega) _
  generalize ((w.alloc (.cells #[.bool p1, .slice A1 l1.length c1, .bool q1, .slice B1 m1.length d1] 26)).alloc (.cells #[.bool p2, .slice A2 l2.length c2, .bool q2, .slice B2 m2.length d2] 26)) = wx at t1 t2 bel ⊢
  have X := h1.below bel
  have Y := h2.below bel
  have t1_0 := t1.c0
  have t1_1 := t1.c1
  have t1_2 := t1.c2
  have t1_3 := t1.c3
  have t2_0 := t2.c0
  have t2_1 := t2.c1
  have t2_2 := t2.c2
  have t2_3 := t2.c3
  go_wp2_with fail
  refine (HSB.out _ X Y).mono ?_
  rintro e w2 ⟨A7, c7, l7, B7, d7, m7, rfl, E7, hb⟩
  clear t1_0 t1_1 t1_2 t1_3 t2_0 t2_1 t2_2 t2_3
  replace t1 := t1.below hb t1.lt
  replace t2 := t2.below hb t2.lt
  replace bel := bel.trans (hb.mono bel.size)
  clear hb
  clear X Y
  go_wp2_with fail
  refine (HSG.out _ _ _ _ _ _ _ E7).mono ?_
  rintro e w3 ⟨rfl, hb⟩
  replace t1 := t1.below hb t1.lt
  replace t2 := t2.below hb t2.lt
  replace bel := bel.trans (hb.mono bel.size)
  replace E7 := E7.below hb
  clear hb
  go_wp2_with fail
  go_ret
  exact ⟨rfl, bel⟩
end Go.Proofs.YtkpomjdablopaaaGreatDoor
/- Walks of package rational: Log2Floor of the reference. -/
namespace Go.Proofs.YtkpomjdablopaaaGreatDoor
open Go.RowKit
set_option linter.unusedVariables false

set_option maxRecDepth 100000 in
set_option maxHeartbeats 1000000 in
theorem rlog2floor_neg {p1 : Bool} {A1 : Option Addr} {c1 : Nat} {l1 : List Nat} {q1 : Bool} {B1 : Option Addr} {d1 : Nat} {m1 : List Nat} {z1 : Rat} {w : World} (h1 : Rv w p1 A1 c1 l1 q1 B1 d1 m1 z1 4) (hn : z1.num ≤ 0) :
    Calls Tryz.prog 16 #[ratV p1 A1 l1.length c1 q1 B1 m1.length d1] w fun e w' => e = .returned (.tuple #[.int .i64 0, .int .i64 3]) ∧ Below w.heap.size w w' := by
  obtain ⟨s, hs⟩ : ∃ s, s = z1.num.sign := ⟨_, rfl⟩
  have HSG := Lib.hid (fun (W : World) (h : Rv W p1 A1 c1 l1 q1 B1 d1 m1 z1 4) => (by have h := rrsgn h (by decide) (by decide); rw [← hs] at h; exact h : Calls Tryz.prog 42 #[.agg #[.bool p1, .slice A1 l1.length c1, .bool q1, .slice B1 m1.length d1]] W fun e w' => e = .returned (.int .i64 s) ∧ Below W.heap.size W w'))
  have e1 : s < 1 := by rw [hs]; have := Int.sign_nonpos_iff.2 hn; omega
  have e2 : decide (s < 1) = true := decide_eq_true e1
  clear hs hn
  unfold ratV
  go_enter Tryz.func16, Tryz.ntmps16
  go_wp2_with fail
  have t1 : Four (w.alloc (.cells #[.bool p1, .slice A1 l1.length c1, .bool q1, .slice B1 m1.length d1] 26)) w.heap.size (.bool p1) (.slice A1 l1.length c1) (.bool q1) (.slice B1 m1.length d1) := Four.new_ w (.bool p1) (.slice A1 l1.length c1) (.bool q1) (.slice B1 m1.length d1) 26
  have bel : Below w.heap.size w (w.alloc (.cells #[.bool p1, .slice A1 l1.length c1, .bool q1, .slice B1 m1.length d1] 26)) := (Below.refl _ _).alloc (Nat.le_refl _) _
  generalize (w.alloc (.cells #[.bool p1, .slice A1 l1.length c1, .bool q1, .slice B1 m1.length d1] 26)) = wx at t1 bel ⊢
  have X := h1.below bel
  have t1_0 := t1.c0
  have t1_1 := t1.c1
  have t1_2 := t1.c2
  have t1_3 := t1.c3
  go_wp2_with fail
  refine (HSG.out _ X).mono ?_
  rintro e w2 ⟨rfl, hb⟩
  clear t1_0 t1_1 t1_2 t1_3
  replace t1 := t1.below hb t1.lt
  replace bel := bel.trans (hb.mono bel.size)
  clear hb
  clear X
  go_wp2_with fail
  go_ret2
  exact ⟨rfl, bel⟩

set_option maxRecDepth 100000 in
set_option maxHeartbeats 2000000 in
theorem rlog2floor_pos {p1 : Bool} {A1 : Option Addr} {c1 : Nat} {l1 : List Nat} {q1 : Bool} {B1 : Option Addr} {d1 : Nat} {m1 : List Nat} {z1 : Rat} {w : World} (h1 : Rv w p1 A1 c1 l1 q1 B1 d1 m1 z1 4) (hp : 0 < z1.num) :
    Calls Tryz.prog 16 #[ratV p1 A1 l1.length c1 q1 B1 m1.length d1] w (GL z1 w) := by
  obtain ⟨s, hs⟩ : ∃ s, s = z1.num.sign := ⟨_, rfl⟩
  have HSG := Lib.hid (fun (W : World) (h : Rv W p1 A1 c1 l1 q1 B1 d1 m1 z1 4) => (by have h := rrsgn h (by decide) (by decide); rw [← hs] at h; exact h : Calls Tryz.prog 42 #[.agg #[.bool p1, .slice A1 l1.length c1, .bool q1, .slice B1 m1.length d1]] W fun e w' => e = .returned (.int .i64 s) ∧ Below W.heap.size W w'))
  have e1 : ¬ s < 1 := by rw [hs, Int.sign_eq_one_of_pos hp]; decide
  have e2 : decide (s < 1) = false := decide_eq_false e1
  have HRA := Lib.hid (log_range hp h1.few4.1 h1.few4.2)
  have HPC : Hid (∀ k, (0 < (p2 k - z1).num.sign ↔ ¬ leP k z1.num.natAbs z1.den) ∧ ((p2 k - z1).num.sign < 0 ↔ ltP k z1.num.natAbs z1.den)) := Lib.hid (fun k => (p2_cmp k z1).resolve_right (fun h => h hp))
  have HCM := Lib.hid (fun (W : World) (i : Int) (A : Option Addr) (c : Nat) (l : List Nat) (Bb : Option Addr) (d : Nat) (m : List Nat) (h : Cr W A c l Bb d m (p2 i) 7) (h' : Rv W p1 A1 c1 l1 q1 B1 d1 m1 z1 4) => (rrcmp h.rv h' (by decide) (by decide) (by decide) (by decide) : Calls Tryz.prog 43 #[.agg #[.bool (decide ((p2 i).num < 0)), .slice A l.length c, .bool false, .slice Bb m.length d], .agg #[.bool p1, .slice A1 l1.length c1, .bool q1, .slice B1 m1.length d1]] W fun e w' => e = .returned (.int .i64 (p2 i - z1).num.sign) ∧ Below W.heap.size W w'))
  clear hs hp
  unfold ratV
  go_enter Tryz.func16, Tryz.ntmps16
  go_wp2_with fail
  have t1 : Four (w.alloc (.cells #[.bool p1, .slice A1 l1.length c1, .bool q1, .slice B1 m1.length d1] 26)) w.heap.size (.bool p1) (.slice A1 l1.length c1) (.bool q1) (.slice B1 m1.length d1) := Four.new_ w (.bool p1) (.slice A1 l1.length c1) (.bool q1) (.slice B1 m1.length d1) 26
  have bel : Below w.heap.size w (w.alloc (.cells #[.bool p1, .slice A1 l1.length c1, .bool q1, .slice B1 m1.length d1] 26)) := (Below.refl _ _).alloc (Nat.le_refl _) _
  generalize (w.alloc (.cells #[.bool p1, .slice A1 l1.length c1, .bool q1, .slice B1 m1.length d1] 26)) = wx at t1 bel ⊢
  have X := h1.below bel
  have t1_0 := t1.c0
  have t1_1 := t1.c1
  have t1_2 := t1.c2
  have t1_3 := t1.c3
  go_wp2_with fail
  refine (HSG.out _ X).mono ?_
  rintro e w2 ⟨rfl, hb⟩
  clear t1_0 t1_1 t1_2 t1_3
  replace t1 := t1.below hb t1.lt
  replace bel := bel.trans (hb.mono bel.size)
  clear hb
  replace X := h1.below bel
  go_wp2_with fail
  clear e1 e2 HSG
  go_loopw [4] (fun kv wr => ∃ k : Int, kv = .int .i64 k ∧ -128 ≤ k ∧ k ≤ 0 ∧ Four wr w.heap.size (.bool p1) (.slice A1 l1.length c1) (.bool q1) (.slice B1 m1.length d1) ∧ Rv wr p1 A1 c1 l1 q1 B1 d1 m1 z1 4 ∧ Below w.heap.size w wr) (fun kv _ => (intOf kv + 128).toNat)
  case atStart => exact ⟨0, rfl, by decide, by decide, t1, X, bel⟩
  case round =>
    clear t1 X bel
    obtain ⟨k, rfl, hk1, hk2, t1, X, bel⟩ := hrel
    obtain ⟨s, hs⟩ : ∃ s, s = (p2 k - z1).num.sign := ⟨_, rfl⟩
    have HPW := Lib.hid (fun (W : World) => (rpower k (by omega) W : Calls Tryz.prog 44 #[.int .i64 k] W (GR (p2 k) 7 W)))
    have HC2 := Lib.hid (fun (W : World) (A : Option Addr) (c : Nat) (l : List Nat) (Bb : Option Addr) (d : Nat) (m : List Nat) (h : Cr W A c l Bb d m (p2 k) 7) (h' : Rv W p1 A1 c1 l1 q1 B1 d1 m1 z1 4) => (by have h := HCM.out W k A c l Bb d m h h'; rw [← hs] at h; exact h : Calls Tryz.prog 43 #[.agg #[.bool (decide ((p2 k).num < 0)), .slice A l.length c, .bool false, .slice Bb m.length d], .agg #[.bool p1, .slice A1 l1.length c1, .bool q1, .slice B1 m1.length d1]] W fun e w' => e = .returned (.int .i64 s) ∧ Below W.heap.size W w'))
    have HS := Lib.hid (HPC.out k)
    rw [← hs] at HS
    clear hs
    rcases Int.lt_or_le 0 s with hc | hc
    · have e1 : 0 < s := hc
      have e2 : decide (0 < s) = true := decide_eq_true e1
      have hk3 : -127 ≤ k := by
        rcases Int.lt_or_le k (-127) with h | h
        · have e : k = -128 := by omega
          subst e
          exact absurd HRA.out.1 (HS.out.1.1 hc)
        · exact h
      have hwk : IntKind.i64.wrap (k - 1) = k - 1 := IntWalk.i64_in _ (by omega)
      have HK := Lib.hid hk3
      have HK2 := Lib.hid hk2
      clear hc hk1 hk2 hk3
      go_wp2_with fail
      replace t1 := t1.drew
      replace X := X.drew
      replace bel := bDrew1 bel
      go_region_held3 (fun w' => w'.cell? ⟨w.heap.size, 0, none⟩ = some (.bool p1) ∧ w'.cell? ⟨w.heap.size, 1, none⟩ = some (.slice A1 l1.length c1) ∧ w'.cell? ⟨w.heap.size, 2, none⟩ = some (.bool q1) ∧ w'.cell? ⟨w.heap.size, 3, none⟩ = some (.slice B1 m1.length d1))
        (with_reducible exact ⟨t1.c0, t1.c1, t1.c2, t1.c3⟩)
        (first
          | (go_at_call 44; (with_reducible refine (HPW.out _).mono ?_); rintro e wa ⟨A7, c7, l7, B7, d7, m7, rfl, E7, hb⟩; replace t1 := t1.below hb t1.lt; replace X := X.below hb; replace bel := bel.trans (hb.mono bel.size); clear hb)
          | (go_at_call 43; (with_reducible refine (HC2.out _ _ _ _ _ _ _ E7 X).mono ?_); rintro e wa ⟨rfl, hb⟩; replace t1 := t1.below hb t1.lt; replace X := X.below hb; replace bel := bel.trans (hb.mono bel.size); replace E7 := E7.below hb; clear hb))
      clear E7
      go_wp2_with fail
      go_roundw
      case rel => exact ⟨k - 1, by first | go_num | rfl, by have := HK.out; omega, by have := HK2.out; omega, t1, X, bel⟩
      case measure => (have := HK.out; first | (simp [intOf]; omega) | (simp [intOf, hwk]; omega))
    · have e1 : ¬ 0 < s := by omega
      have e2 : decide (0 < s) = false := decide_eq_false e1
      have HLE : Hid (leP k z1.num.natAbs z1.den) := Lib.hid (Classical.byContradiction (fun h => e1 (HS.out.1.2 h)))
      have HK1 := Lib.hid hk1
      have HK2 := Lib.hid hk2
      clear hc hk1 hk2
      go_wp2_with fail
      replace t1 := t1.drew
      replace X := X.drew
      replace bel := bDrew1 bel
      go_region_held3 (fun w' => w'.cell? ⟨w.heap.size, 0, none⟩ = some (.bool p1) ∧ w'.cell? ⟨w.heap.size, 1, none⟩ = some (.slice A1 l1.length c1) ∧ w'.cell? ⟨w.heap.size, 2, none⟩ = some (.bool q1) ∧ w'.cell? ⟨w.heap.size, 3, none⟩ = some (.slice B1 m1.length d1))
        (with_reducible exact ⟨t1.c0, t1.c1, t1.c2, t1.c3⟩)
        (first
          | (go_at_call 44; (with_reducible refine (HPW.out _).mono ?_); rintro e wa ⟨A7, c7, l7, B7, d7, m7, rfl, E7, hb⟩; replace t1 := t1.below hb t1.lt; replace X := X.below hb; replace bel := bel.trans (hb.mono bel.size); clear hb)
          | (go_at_call 43; (with_reducible refine (HC2.out _ _ _ _ _ _ _ E7 X).mono ?_); rintro e wa ⟨rfl, hb⟩; replace t1 := t1.below hb t1.lt; replace X := X.below hb; replace bel := bel.trans (hb.mono bel.size); replace E7 := E7.below hb; clear hb))
      clear E7
      go_wp2_with fail
      clear e1 e2 HPW HC2 HS
      go_loopw [4] (fun kv wr => ∃ k : Int, kv = .int .i64 k ∧ -128 ≤ k ∧ k ≤ 127 ∧ Hid (leP k z1.num.natAbs z1.den) ∧ Four wr w.heap.size (.bool p1) (.slice A1 l1.length c1) (.bool q1) (.slice B1 m1.length d1) ∧ Rv wr p1 A1 c1 l1 q1 B1 d1 m1 z1 4 ∧ Below w.heap.size w wr) (fun kv _ => (127 - intOf kv).toNat)
      case atStart => exact ⟨k, rfl, HK1.out, by have := HK2.out; omega, HLE, t1, X, bel⟩
      case round =>
        clear t1 X bel HLE HK1 HK2
        obtain ⟨i, rfl, hk1, hk2, HLE, t1, X, bel⟩ := hrel
        obtain ⟨i1, hi1⟩ : ∃ i1 : Int, i1 = i + 1 := ⟨_, rfl⟩
        have hwk : IntKind.i64.wrap (i + 1) = i1 := (IntWalk.i64_in _ (by omega)).trans hi1.symm
        have HI := Lib.hid hi1
        obtain ⟨s, hs⟩ : ∃ s, s = (p2 i1 - z1).num.sign := ⟨_, rfl⟩
        have HPW := Lib.hid (fun (W : World) => (rpower i1 (by omega) W : Calls Tryz.prog 44 #[.int .i64 i1] W (GR (p2 i1) 7 W)))
        have HC2 := Lib.hid (fun (W : World) (A : Option Addr) (c : Nat) (l : List Nat) (Bb : Option Addr) (d : Nat) (m : List Nat) (h : Cr W A c l Bb d m (p2 i1) 7) (h' : Rv W p1 A1 c1 l1 q1 B1 d1 m1 z1 4) => (by have h := HCM.out W i1 A c l Bb d m h h'; rw [← hs] at h; exact h : Calls Tryz.prog 43 #[.agg #[.bool (decide ((p2 i1).num < 0)), .slice A l.length c, .bool false, .slice Bb m.length d], .agg #[.bool p1, .slice A1 l1.length c1, .bool q1, .slice B1 m1.length d1]] W fun e w' => e = .returned (.int .i64 s) ∧ Below W.heap.size W w'))
        have HS := Lib.hid (HPC.out i1)
        rw [← hs] at HS
        clear hs
        rcases Int.lt_or_le 0 s with hc | hc
        · have e1 : ¬ s ≤ 0 := by omega
          have e2 : decide (s ≤ 0) = false := decide_eq_false e1
          have HF : Hid (isL z1 i) := Lib.hid ⟨HLE.out, by rw [← HI.out]; exact HS.out.1.1 hc⟩
          have HK1 := Lib.hid hk1
          have HK2 := Lib.hid hk2
          clear hc hk1 hk2 hi1
          go_wp2_with fail
          replace t1 := t1.drew
          replace X := X.drew
          replace bel := bDrew1 bel
          go_region_held3 (fun w' => w'.cell? ⟨w.heap.size, 0, none⟩ = some (.bool p1) ∧ w'.cell? ⟨w.heap.size, 1, none⟩ = some (.slice A1 l1.length c1) ∧ w'.cell? ⟨w.heap.size, 2, none⟩ = some (.bool q1) ∧ w'.cell? ⟨w.heap.size, 3, none⟩ = some (.slice B1 m1.length d1))
            (with_reducible exact ⟨t1.c0, t1.c1, t1.c2, t1.c3⟩)
            (first
              | (go_at_call 44; (with_reducible refine (HPW.out _).mono ?_); rintro e wa ⟨A7, c7, l7, B7, d7, m7, rfl, E7, hb⟩; replace t1 := t1.below hb t1.lt; replace X := X.below hb; replace bel := bel.trans (hb.mono bel.size); clear hb)
              | (go_at_call 43; (with_reducible refine (HC2.out _ _ _ _ _ _ _ E7 X).mono ?_); rintro e wa ⟨rfl, hb⟩; replace t1 := t1.below hb t1.lt; replace X := X.below hb; replace bel := bel.trans (hb.mono bel.size); replace E7 := E7.below hb; clear hb))
          clear E7
          go_wp2_with fail
          go_ret2
          exact ⟨_, rfl, HF.out, by have := HK1.out; omega, by have := HK2.out; omega, bel⟩
        · have e1 : s ≤ 0 := hc
          have e2 : decide (s ≤ 0) = true := decide_eq_true e1
          have HL2 : Hid (leP i1 z1.num.natAbs z1.den) := Lib.hid (Classical.byContradiction (fun h => absurd (HS.out.1.2 h) (by omega)))
          have HK3 : Hid (i1 ≤ 127) := Lib.hid (by
            rcases Int.lt_or_le 127 i1 with h | h
            · have e : i1 = 128 := by omega
              have h2 := HL2.out
              rw [e] at h2
              exact absurd h2 HRA.out.2
            · exact h)
          have HK1 := Lib.hid hk1
          clear hc hk1 hk2 hi1
          go_wp2_with fail
          replace t1 := t1.drew
          replace X := X.drew
          replace bel := bDrew1 bel
          go_region_held3 (fun w' => w'.cell? ⟨w.heap.size, 0, none⟩ = some (.bool p1) ∧ w'.cell? ⟨w.heap.size, 1, none⟩ = some (.slice A1 l1.length c1) ∧ w'.cell? ⟨w.heap.size, 2, none⟩ = some (.bool q1) ∧ w'.cell? ⟨w.heap.size, 3, none⟩ = some (.slice B1 m1.length d1))
            (with_reducible exact ⟨t1.c0, t1.c1, t1.c2, t1.c3⟩)
            (first
              | (go_at_call 44; (with_reducible refine (HPW.out _).mono ?_); rintro e wa ⟨A7, c7, l7, B7, d7, m7, rfl, E7, hb⟩; replace t1 := t1.below hb t1.lt; replace X := X.below hb; replace bel := bel.trans (hb.mono bel.size); clear hb)
              | (go_at_call 43; (with_reducible refine (HC2.out _ _ _ _ _ _ _ E7 X).mono ?_); rintro e wa ⟨rfl, hb⟩; replace t1 := t1.below hb t1.lt; replace X := X.below hb; replace bel := bel.trans (hb.mono bel.size); replace E7 := E7.below hb; clear hb))
          clear E7
          go_wp2_with fail
          go_roundw
          case rel => exact ⟨i1, by first | go_num | rfl, by have := HK1.out; have := HI.out; omega, HK3.out, HL2, t1, X, bel⟩
          case measure => (have := HK3.out; have := HI.out; first | (simp [intOf]; omega) | (simp [intOf, hwk]; omega))
end Go.Proofs.YtkpomjdablopaaaGreatDoor
/- Walks of package rational: Log2Ceil of the reference. -/
namespace Go.Proofs.YtkpomjdablopaaaGreatDoor
open Go.RowKit
set_option linter.unusedVariables false

set_option maxRecDepth 100000 in
set_option maxHeartbeats 1000000 in
theorem rlog2ceil_neg {p1 : Bool} {A1 : Option Addr} {c1 : Nat} {l1 : List Nat} {q1 : Bool} {B1 : Option Addr} {d1 : Nat} {m1 : List Nat} {z1 : Rat} {w : World} (h1 : Rv w p1 A1 c1 l1 q1 B1 d1 m1 z1 4) (hn : z1.num ≤ 0) :
    Calls Tryz.prog 17 #[ratV p1 A1 l1.length c1 q1 B1 m1.length d1] w fun e w' => e = .returned (.tuple #[.int .i64 0, .int .i64 3]) ∧ Below w.heap.size w w' := by
  have HFL := Lib.hid (fun (W : World) (h : Rv W p1 A1 c1 l1 q1 B1 d1 m1 z1 4) => (rlog2floor_neg h hn : Calls Tryz.prog 16 #[.agg #[.bool p1, .slice A1 l1.length c1, .bool q1, .slice B1 m1.length d1]] W fun e w' => e = .returned (.tuple #[.int .i64 0, .int .i64 3]) ∧ Below W.heap.size W w'))
  clear hn
  unfold ratV
  go_enter Tryz.func17, Tryz.ntmps17
  go_wp2_with fail
  have t1 : Four (w.alloc (.cells #[.bool p1, .slice A1 l1.length c1, .bool q1, .slice B1 m1.length d1] 26)) w.heap.size (.bool p1) (.slice A1 l1.length c1) (.bool q1) (.slice B1 m1.length d1) := Four.new_ w (.bool p1) (.slice A1 l1.length c1) (.bool q1) (.slice B1 m1.length d1) 26
  have bel : Below w.heap.size w (w.alloc (.cells #[.bool p1, .slice A1 l1.length c1, .bool q1, .slice B1 m1.length d1] 26)) := (Below.refl _ _).alloc (Nat.le_refl _) _
  generalize (w.alloc (.cells #[.bool p1, .slice A1 l1.length c1, .bool q1, .slice B1 m1.length d1] 26)) = wx at t1 bel ⊢
  have X := h1.below bel
  have t1_0 := t1.c0
  have t1_1 := t1.c1
  have t1_2 := t1.c2
  have t1_3 := t1.c3
  go_wp2_with fail
  refine (HFL.out _ X).mono ?_
  rintro e w2 ⟨rfl, hb⟩
  clear t1_0 t1_1 t1_2 t1_3
  replace t1 := t1.below hb t1.lt
  replace bel := bel.trans (hb.mono bel.size)
  clear hb
  clear X
  go_upto_region 2 with (fail)
  go_quiet (fail)
  go_wp2_with fail
  go_ret2
  first | exact ⟨rfl, bDrew bel _⟩ | exact ⟨rfl, bDrew1 bel⟩ | exact ⟨rfl, bel⟩

set_option maxRecDepth 100000 in
set_option maxHeartbeats 2000000 in
theorem rlog2ceil_pos {p1 : Bool} {A1 : Option Addr} {c1 : Nat} {l1 : List Nat} {q1 : Bool} {B1 : Option Addr} {d1 : Nat} {m1 : List Nat} {z1 : Rat} {w : World} (h1 : Rv w p1 A1 c1 l1 q1 B1 d1 m1 z1 4) (hp : 0 < z1.num) :
    Calls Tryz.prog 17 #[ratV p1 A1 l1.length c1 q1 B1 m1.length d1] w (GC z1 w) := by
  have HFL := Lib.hid (fun (W : World) (h : Rv W p1 A1 c1 l1 q1 B1 d1 m1 z1 4) => (rlog2floor_pos h hp : Calls Tryz.prog 16 #[.agg #[.bool p1, .slice A1 l1.length c1, .bool q1, .slice B1 m1.length d1]] W (GL z1 W)))
  have HPC : Hid (∀ k, (0 < (p2 k - z1).num.sign ↔ ¬ leP k z1.num.natAbs z1.den) ∧ ((p2 k - z1).num.sign < 0 ↔ ltP k z1.num.natAbs z1.den)) := Lib.hid (fun k => (p2_cmp k z1).resolve_right (fun h => h hp))
  have HDN : Hid (0 < z1.den) := Lib.hid (by have := z1.den_nz; omega)
  have HRA := Lib.hid (log_range hp h1.few4.1 h1.few4.2)
  have HCM := Lib.hid (fun (W : World) (i : Int) (A : Option Addr) (c : Nat) (l : List Nat) (Bb : Option Addr) (d : Nat) (m : List Nat) (h : Cr W A c l Bb d m (p2 i) 7) (h' : Rv W p1 A1 c1 l1 q1 B1 d1 m1 z1 4) => (rrcmp h.rv h' (by decide) (by decide) (by decide) (by decide) : Calls Tryz.prog 43 #[.agg #[.bool (decide ((p2 i).num < 0)), .slice A l.length c, .bool false, .slice Bb m.length d], .agg #[.bool p1, .slice A1 l1.length c1, .bool q1, .slice B1 m1.length d1]] W fun e w' => e = .returned (.int .i64 (p2 i - z1).num.sign) ∧ Below W.heap.size W w'))
  clear hp
  unfold ratV
  go_enter Tryz.func17, Tryz.ntmps17
  go_wp2_with fail
  have t1 : Four (w.alloc (.cells #[.bool p1, .slice A1 l1.length c1, .bool q1, .slice B1 m1.length d1] 26)) w.heap.size (.bool p1) (.slice A1 l1.length c1) (.bool q1) (.slice B1 m1.length d1) := Four.new_ w (.bool p1) (.slice A1 l1.length c1) (.bool q1) (.slice B1 m1.length d1) 26
  have bel : Below w.heap.size w (w.alloc (.cells #[.bool p1, .slice A1 l1.length c1, .bool q1, .slice B1 m1.length d1] 26)) := (Below.refl _ _).alloc (Nat.le_refl _) _
  generalize (w.alloc (.cells #[.bool p1, .slice A1 l1.length c1, .bool q1, .slice B1 m1.length d1] 26)) = wx at t1 bel ⊢
  have X := h1.below bel
  have t1_0 := t1.c0
  have t1_1 := t1.c1
  have t1_2 := t1.c2
  have t1_3 := t1.c3
  go_wp2_with fail
  refine (HFL.out _ X).mono ?_
  rintro e w2 ⟨k, rfl, hL, hk0, hk1, hb⟩
  clear t1_0 t1_1 t1_2 t1_3
  replace t1 := t1.below hb t1.lt
  replace bel := bel.trans (hb.mono bel.size)
  clear hb
  replace X := h1.below bel
  obtain ⟨s, hs⟩ : ∃ s, s = (p2 k - z1).num.sign := ⟨_, rfl⟩
  have HR2 : Hid (-128 ≤ k ∧ k ≤ 127) := Lib.hid (by
    refine ⟨?_, ?_⟩
    · rcases Int.lt_or_le k (-128) with h | h
      · exact absurd (leP_mono (by omega) HRA.out.1) hL.2
      · exact h
    · rcases Int.lt_or_le 127 k with h | h
      · exact absurd (leP_mono (by omega) hL.1) HRA.out.2
      · exact h)
  have HPW := Lib.hid (fun (W : World) => (rpower k (by have := HR2.out; omega) W : Calls Tryz.prog 44 #[.int .i64 k] W (GR (p2 k) 7 W)))
  have HC2 := Lib.hid (fun (W : World) (A : Option Addr) (c : Nat) (l : List Nat) (Bb : Option Addr) (d : Nat) (m : List Nat) (h : Cr W A c l Bb d m (p2 k) 7) (h' : Rv W p1 A1 c1 l1 q1 B1 d1 m1 z1 4) => (by have h := HCM.out W k A c l Bb d m h h'; rw [← hs] at h; exact h : Calls Tryz.prog 43 #[.agg #[.bool (decide ((p2 k).num < 0)), .slice A l.length c, .bool false, .slice Bb m.length d], .agg #[.bool p1, .slice A1 l1.length c1, .bool q1, .slice B1 m1.length d1]] W fun e w' => e = .returned (.int .i64 s) ∧ Below W.heap.size W w'))
  have HS := Lib.hid (HPC.out k)
  rw [← hs] at HS
  have HLL := Lib.hid hL
  clear hs hk0 hk1 hL
  rcases Int.lt_or_le s 0 with hc | hc
  · have e1 : s < 0 := hc
    have e2 : decide (s < 0) = true := decide_eq_true e1
    have hwk : IntKind.i64.wrap (k + 1) = k + 1 := IntWalk.i64_in _ (by have := HR2.out; omega)
    have HF : Hid (isC z1 (k + 1)) := Lib.hid ⟨by rw [Int.add_sub_cancel]; exact HS.out.2.1 hc, fun h => HLL.out.2 (leP_of_lt h)⟩
    clear hc
    go_wp2_with fail
    replace t1 := t1.drew
    replace X := X.drew
    replace bel := bDrew1 bel
    go_region_held3 (fun w' => w'.cell? ⟨w.heap.size, 0, none⟩ = some (.bool p1) ∧ w'.cell? ⟨w.heap.size, 1, none⟩ = some (.slice A1 l1.length c1) ∧ w'.cell? ⟨w.heap.size, 2, none⟩ = some (.bool q1) ∧ w'.cell? ⟨w.heap.size, 3, none⟩ = some (.slice B1 m1.length d1))
      (with_reducible exact ⟨t1.c0, t1.c1, t1.c2, t1.c3⟩)
      (first
        | (go_at_call 44; (with_reducible refine (HPW.out _).mono ?_); rintro e wa ⟨A7, c7, l7, B7, d7, m7, rfl, E7, hb⟩; replace t1 := t1.below hb t1.lt; replace X := X.below hb; replace bel := bel.trans (hb.mono bel.size); clear hb)
        | (go_at_call 43; (with_reducible refine (HC2.out _ _ _ _ _ _ _ E7 X).mono ?_); rintro e wa ⟨rfl, hb⟩; replace t1 := t1.below hb t1.lt; replace X := X.below hb; replace bel := bel.trans (hb.mono bel.size); replace E7 := E7.below hb; clear hb))
    clear E7
    go_wp2_with fail
    go_ret2
    exact ⟨_, rfl, HF.out, by have := HR2.out; omega, by have := HR2.out; omega, bel⟩
  · have e1 : ¬ s < 0 := by omega
    have e2 : decide (s < 0) = false := decide_eq_false e1
    have HF : Hid (isC z1 k) := Lib.hid ⟨ltP_pred HDN.out HLL.out.1, fun h => e1 (HS.out.2.2 h)⟩
    clear hc
    go_wp2_with fail
    replace t1 := t1.drew
    replace X := X.drew
    replace bel := bDrew1 bel
    go_region_held3 (fun w' => w'.cell? ⟨w.heap.size, 0, none⟩ = some (.bool p1) ∧ w'.cell? ⟨w.heap.size, 1, none⟩ = some (.slice A1 l1.length c1) ∧ w'.cell? ⟨w.heap.size, 2, none⟩ = some (.bool q1) ∧ w'.cell? ⟨w.heap.size, 3, none⟩ = some (.slice B1 m1.length d1))
      (with_reducible exact ⟨t1.c0, t1.c1, t1.c2, t1.c3⟩)
      (first
        | (go_at_call 44; (with_reducible refine (HPW.out _).mono ?_); rintro e wa ⟨A7, c7, l7, B7, d7, m7, rfl, E7, hb⟩; replace t1 := t1.below hb t1.lt; replace X := X.below hb; replace bel := bel.trans (hb.mono bel.size); clear hb)
        | (go_at_call 43; (with_reducible refine (HC2.out _ _ _ _ _ _ _ E7 X).mono ?_); rintro e wa ⟨rfl, hb⟩; replace t1 := t1.below hb t1.lt; replace X := X.below hb; replace bel := bel.trans (hb.mono bel.size); replace E7 := E7.below hb; clear hb))
    clear E7
    go_wp2_with fail
    go_ret2
    exact ⟨_, rfl, HF.out, by have := HR2.out; omega, by have := HR2.out; omega, bel⟩
end Go.Proofs.YtkpomjdablopaaaGreatDoor
