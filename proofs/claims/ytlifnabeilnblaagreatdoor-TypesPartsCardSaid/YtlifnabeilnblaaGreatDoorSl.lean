/- Plain: components, paths and scalars of a type. Of no program. -/
import Derived.Test.YtlifnabeilnblaaGreatDoorEp
namespace Go.Proofs.YtlifnabeilnblaaGreatDoor
set_option linter.unusedVariables false

/-- the text of a number below 100 -/
def num (i : Nat) : ByteArray := if i < 10 then mkB [UInt8.ofNat (48 + i)] else mkB [UInt8.ofNat (48 + i / 10), UInt8.ofNat (48 + i % 10)]
/-- a path and a name behind it -/
def jn (p n : ByteArray) : ByteArray := mkB (bs p ++ [46] ++ bs n)
/-- a scalar: path, is it a bool, bounds -/
structure Sl where
  path : ByteArray
  bool : Bool
  lo : Int
  hi : Int
deriving DecidableEq
namespace G
/-- the components of an array -/
def comps2 (ks : List G) (n : Nat) : List (ByteArray × G) := match ks with | [] => [] | k :: _ => (List.range n).map fun i => (num i, k)
/-- the components of a type itself -/
def comps (e : G) : List (ByteArray × G) := if e.kd = 2 then comps2 e.ks e.sz.toNat else if e.kd = 3 then e.ns.zip e.ks else []
mutual
/-- the scalars of a type with a path -/
def scal : G → ByteArray → List Sl
  | .mk k lo hi sz nm _ _ ns _ _ ks, p => if k = 2 then (List.range sz.toNat).flatMap (fun i => scalH ks (jn p (num i))) else if k = 3 then scalL ks ns p else if k = 0 then [⟨p, true, 0, 1⟩] else [⟨p, false, lo, hi⟩]
def scalH : List G → ByteArray → List Sl | [], _ => [] | e :: _, p => scal e p
def scalL : List G → List ByteArray → ByteArray → List Sl
  | e :: l, n :: ns, p => scal e (jn p n) ++ scalL l ns p
  | _, _, _ => []
end
theorem scalL_zip (ks : List G) (ns : List ByteArray) (p : ByteArray) : scalL ks ns p = (ns.zip ks).flatMap fun c => scal c.2 (jn p c.1) := by
  induction ks generalizing ns with
  | nil => cases ns <;> simp [scalL]
  | cons k l ih => cases ns with
    | nil => simp [scalL]
    | cons n ns => simp only [scalL, List.zip_cons_cons, List.flatMap_cons, ih]
theorem scal_comps (e : G) (p : ByteArray) (h : 2 ≤ e.kd) (h3 : e.kd < 4) : scal e p = (comps e).flatMap fun c => scal c.2 (jn p c.1) := by
  cases e with
  | mk k lo hi sz nm na nc ns a c ks =>
    have h' : 2 ≤ k := h
    have h3' : k < 4 := h3
    by_cases h2 : k = 2
    · subst h2
      rw [scal, if_pos rfl]
      unfold comps
      show _ = (if (2 : Int) = 2 then comps2 ks sz.toNat else _).flatMap _
      rw [if_pos rfl]
      cases ks with
      | nil => simp [scalH, comps2]
      | cons a l => simp only [scalH, comps2]; rw [List.flatMap_map]
    · have h3'' : k = 3 := by omega
      subst h3''
      rw [scal, if_neg (by decide), if_pos rfl, scalL_zip]
      unfold comps
      show _ = (if (3 : Int) = 2 then _ else if (3 : Int) = 3 then ns.zip ks else []).flatMap _
      rw [if_neg (by decide), if_pos rfl]
theorem scal_leaf (e : G) (p : ByteArray) (h : e.kd = 0 ∨ e.kd = 1) : scal e p = [if e.kd = 0 then ⟨p, true, 0, 1⟩ else ⟨p, false, e.lo, e.hi⟩] := by
  cases e with
  | mk k lo hi sz nm na nc ns a c ks =>
    have h' : k = 0 ∨ k = 1 := h
    rw [scal, if_neg (by omega), if_neg (by omega)]
    show _ = [if k = 0 then _ else _]
    by_cases h0 : k = 0
    · rw [if_pos h0, if_pos h0]
    · rw [if_neg h0, if_neg h0]; rfl
theorem comps_leaf (e : G) (h : e.kd = 0 ∨ e.kd = 1) : comps e = [] := by unfold comps; rw [if_neg (by omega), if_neg (by omega)]
theorem scal_bare (e : G) : ∀ p, scal e.bare p = scal e p := by
  induction e using G.ind with
  | h e ih =>
    intro p
    cases e with
    | mk k lo hi sz nm na nc ns a c ks =>
      rw [bare, bareL_eq, scal, scal]
      have hH : ∀ q, scalH (ks.map bare) q = scalH ks q := fun q => by
        cases ks with
        | nil => rfl
        | cons k l => simp only [List.map_cons, scalH]; exact ih k (by show k ∈ k :: l; simp) q
      have hL : ∀ (l : List G) (ms : List ByteArray), (∀ k ∈ l, ∀ p, scal k.bare p = scal k p) → scalL (l.map bare) ms p = scalL l ms p := by
        intro l
        induction l with
        | nil => intro ms _; cases ms <;> rfl
        | cons k l ihl =>
          intro ms hh
          cases ms with
          | nil => rfl
          | cons n ms => simp only [List.map_cons, scalL]; rw [hh k (by simp), ihl ms fun k hk => hh k (by simp [hk])]
      rw [hL ks ns ih]
      simp only [hH]
end G
end Go.Proofs.YtlifnabeilnblaaGreatDoor
