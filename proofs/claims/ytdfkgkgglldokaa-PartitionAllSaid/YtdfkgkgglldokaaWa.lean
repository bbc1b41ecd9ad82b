/- Walks: three, and the law's meet and join. -/
import Derived.Test.YtdfkgkgglldokaaW9
import Derived.Test.YtdfkgkgglldokaaLat
namespace Go.Proofs.Ytdfkgkgglldokaa
open Go.RowKit Go.Maps
set_option linter.unusedVariables false

/-- what the law's meet and join hand back -/
def OkRes (P : List Int → Prop) (w : World) (e : Ending) (w' : World) : Prop :=
  ∃ z A c, P z ∧ e = .returned (.tuple #[.slice A z.length c, .bool true]) ∧ Ints w' w'.heap.size A z ∧ Below w.heap.size w w'

set_option maxRecDepth 100000 in
set_option maxHeartbeats 1000000 in
theorem lmeet_ok (A : Option Addr) (ca : Nat) (p : List Int) (B : Option Addr) (cb : Nat) (q : List Int) (w : World) (ha : Ints w w.heap.size A p) (hb : Ints w w.heap.size B q) (hlp : p.length ≤ 1000000) (hlq : q.length ≤ 1000000) (hc : Kp.code p q = 0) :
    Calls Try.prog 33 #[.slice A p.length ca, .slice B q.length cb] w (OkRes (Kp.IsMeet p q) w) := by
  go_enter Try.func33, Try.ntmps33
  go_wp2_with fail
  refine (bmeet_ok A ca p B cb q _ ha hb hlp hlq hc).mono ?_
  rintro e w1 ⟨z, A1, c1, hz, rfl, hI, n⟩
  have h1 : ((z.length : Int) == (p.length : Int)) = true := by rw [hz.len]; simp
  have h2 : (z.length == p.length) = true := by rw [hz.len]; simp
  have HZ := Lib.hid hz
  clear hz
  go_wp2_with fail
  go_ret2
  exact ⟨z, A1, c1, HZ.out, rfl, hI, n⟩

set_option maxRecDepth 100000 in
set_option maxHeartbeats 1000000 in
theorem ljoin_ok (A : Option Addr) (ca : Nat) (p : List Int) (B : Option Addr) (cb : Nat) (q : List Int) (w : World) (ha : Ints w w.heap.size A p) (hb : Ints w w.heap.size B q) (hlp : p.length ≤ 1000000) (hlq : q.length ≤ 1000000) (hc : Kp.code p q = 0) :
    Calls Try.prog 34 #[.slice A p.length ca, .slice B q.length cb] w (OkRes (Kp.IsJoin p q) w) := by
  go_enter Try.func34, Try.ntmps34
  go_wp2_with fail
  refine (bjoin_ok A ca p B cb q _ ha hb hlp hlq hc).mono ?_
  rintro e w1 ⟨z, A1, c1, hz, rfl, hI, n⟩
  have h1 : ((z.length : Int) == (p.length : Int)) = true := by rw [hz.len]; simp
  have h2 : (z.length == p.length) = true := by rw [hz.len]; simp
  have HZ := Lib.hid hz
  clear hz
  go_wp2_with fail
  go_ret2
  exact ⟨z, A1, c1, HZ.out, rfl, hI, n⟩

theorem Ints.take {w : World} {B : Nat} {A : Option Addr} {zs : List Int} (h : Ints w B A zs) (n : Nat) : Ints w B A (zs.take n) where
  row := ⟨fun hp => by
    have hp' : 0 < zs.length := by rw [List.length_map, List.length_take] at hp; omega
    obtain ⟨b, off, e, hb, hc⟩ := h.row.cells (by rw [List.length_map]; exact hp')
    refine ⟨b, off, e, hb, fun k u hu => hc k u ?_⟩
    rw [List.getElem?_map, List.getElem?_take] at hu
    split at hu
    · rw [List.getElem?_map]; exact hu
    · simp at hu⟩
  lo x hx := h.lo x (List.mem_of_mem_take hx)

theorem min4 (a b c d n : Int) (h : n = min (min (min a b) c) d) (ts : Array TypeId) (t : TypeId) (W : World) : (Builtin.min_ ts t #[.int .i64 a, .int .i64 b, .int .i64 c, .int .i64 d]).run Try.prog W = .ok (.int .i64 n) W := by
  have e : ∀ x y : Int, (if y < x then y else x) = min x y := fun x y => by split <;> omega
  simp [Builtin.min_, Builtin.min2, List.foldlM, e, go_sem, h]

/-- what three hands back -/
def ThRes (P Q R : List Int) (w : World) (e : Ending) (w' : World) : Prop :=
  ∃ A1 c1 A2 c2 A3 c3, e = .returned (.tuple #[.slice A1 P.length c1, .slice A2 Q.length c2, .slice A3 R.length c3]) ∧ Ints w' w'.heap.size A1 P ∧ Ints w' w'.heap.size A2 Q ∧ Ints w' w'.heap.size A3 R ∧ Below w.heap.size w w'

set_option maxRecDepth 100000 in
set_option maxHeartbeats 4000000 in
theorem three_ok (A : Option Addr) (ca : Nat) (za : List Int) (B : Option Addr) (cb : Nat) (zb : List Int) (C : Option Addr) (cc : Nat) (zc : List Int) (w : World)
    (ha : Ints w w.heap.size A za) (hb : Ints w w.heap.size B zb) (hc : Ints w w.heap.size C zc) (hca : za.length ≤ ca) (hcb : zb.length ≤ cb) (hcc : zc.length ≤ cc) :
    Calls Try.prog 32 #[.slice A za.length ca, .slice B zb.length cb, .slice C zc.length cc] w fun e w' => ∃ n, n ≤ 24 ∧ n ≤ za.length ∧ n ≤ zb.length ∧ n ≤ zc.length ∧ ThRes (Kp.ofL (za.take n)) (Kp.ofL (zb.take n)) (Kp.ofL (zc.take n)) w e w' := by
  obtain ⟨n, hn⟩ : ∃ n : Nat, n = min (min (min za.length zb.length) zc.length) 24 := ⟨_, rfl⟩
  have hn1 : n ≤ za.length := by omega
  have hn2 : n ≤ zb.length := by omega
  have hn3 : n ≤ zc.length := by omega
  have hn4 : n ≤ 24 := by omega
  have hmn : min (min (min (za.length : Int) (zb.length : Int)) (zc.length : Int)) 24 = (n : Int) := by omega
  have hmn' : ∀ W : World, (Builtin.min_ #[3, 3, 3, 3] 3 #[.int .i64 (za.length : Int), .int .i64 (zb.length : Int), .int .i64 (zc.length : Int), .int .i64 24]).run Try.prog W = .ok (.int .i64 (n : Int)) W := fun W => min4 _ _ _ _ _ hmn.symm _ _ W
  have HN := Lib.hid hn
  clear hn hmn
  go_enter Try.func32, Try.ntmps32
  go_wp2_with fail
  have hxa : (n : Int) ≤ (ca : Int) := by omega
  have hxb : (n : Int) ≤ (cb : Int) := by omega
  have hxc : (n : Int) ≤ (cc : Int) := by omega
  have hof : ∀ (A : Option Addr) (c : Nat) (zs : List Int) (W : World), Ints W W.heap.size A zs → n ≤ zs.length → Calls Try.prog 13 #[.slice A n c] W (IntsRes (Kp.ofL (zs.take n)) W) := fun A c zs W h hl => by
    have hlen : (zs.take n).length = n := by rw [List.length_take]; omega
    have := rof_any A c (zs.take n) W (h.take n) (by omega)
    rw [hlen] at this
    exact this
  have HOF := Lib.hid hof
  have K : Below w.heap.size w w.drew := bDrew (Below.refl _ _) 1
  have H1 := Lib.hid hn1
  have H2 := Lib.hid hn2
  have H3 := Lib.hid hn3
  have H4 := Lib.hid hn4
  have la : ∀ zs : List Int, n ≤ zs.length → (Kp.ofL (zs.take n)).length = n := fun zs h => by rw [Kp.ofL_length, List.length_take]; omega
  have LA := Lib.hid la
  clear hof la hmn' hca hcb hcc hn1 hn2 hn3 hn4
  go_region_with (first
    | (go_at_call 13; (with_reducible refine (HOF.out A _ za _ (ha.at K) H1.out).mono ?_); rintro e w4 ⟨A1, c1, rfl, I1, m⟩; replace K := bTrans K m; clear m)
    | (go_at_call 13; (with_reducible refine (HOF.out B _ zb _ (hb.at K) H2.out).mono ?_); rintro e w5 ⟨A2, c2, rfl, I2, m⟩; replace K := bTrans K m; replace I1 := I1.at m; clear m)
    | (go_at_call 13; (with_reducible refine (HOF.out C _ zc _ (hc.at K) H3.out).mono ?_); rintro e w6 ⟨A3, c3, rfl, I3, m⟩; replace K := bTrans K m; replace I1 := I1.at m; replace I2 := I2.at m; clear m))
  all_goals
    go_wp2_with fail
    refine bodyPost_ret (v := .tuple #[.slice A1 (Kp.ofL (za.take n)).length c1, .slice A2 (Kp.ofL (zb.take n)).length c2, .slice A3 (Kp.ofL (zc.take n)).length c3]) (by simp [results, Try.results32, go_sem]) rfl ?_
    exact ⟨n, H4.out, H1.out, H2.out, H3.out, A1, c1, A2, c2, A3, c3, rfl, I1, I2, I3, K⟩
end Go.Proofs.Ytdfkgkgglldokaa
