/-
  names: how an item is read.
-/
import Derived.Shelf.Abstract
import Derived.Shelf.RegionOpen
import Derived.WalkKit
import Derived.WalkSpells
import Derived.WalkLawsBesides
import Derived.OwnWalk
import Derived.BigQuiet
import Derived.Deep.QuietTactic
import Derived.Deep.LoopGhost
import Derived.Deep.RegionWith
import Derived.Deep.DeepCutAuto
import Derived.Laws.EntriesVeiled
import Derived.Lib.OthersKept
import Derived.Maps.AppendAt
import Derived.Lib.SmallJoins
import Derived.Test.YtbacejefgpaabaaDoorNf
namespace Go.Proofs
open Go.RowKit Go.Shelf

set_option maxRecDepth 100000
attribute [local go_sem] Oper.semAt_some

/-- the set of an item, or why there is none -/
def SetC (K : ByteArray → Option (List (Int × Int))) (x : It) (l : List It) (c : Int) (r : List (Int × Int)) : Prop :=
  (x.k = 4 ∧ c = 0 ∧ r = allU) ∨ (x.k = 5 ∧ GN K x.nt l c r) ∨ (x.k ≠ 4 ∧ x.k ≠ 5 ∧ c = plainC K x ∧ r = plainL K x)
/-- an item's parts are as these -/
def Parts (W : World) (psv : Value) (l : List (It × Value)) : Prop :=
  ∃ g o cp, psv = .slice (some ⟨g, o, none⟩) l.length cp ∧ l.length ≤ 1000000 ∧ (∀ p ∈ l, p.1.k ≠ 3 ∧ p.1.nm.size ≤ maxLen ∧ ∃ a n c, p.2 = .slice a n c) ∧ (∀ j, j < l.length → g < W.heap.size) ∧ ∀ (j : Nat) (hj : j < l.length), ItAt W g (o + j * 8) l[j].1 l[j].2
/-- an item that may be read: no class -/
def ItemOk (W : World) (x : It) (psv : Value) (l : List (It × Value)) : Prop :=
  x.k ≠ 3 ∧ x.nm.size ≤ maxLen ∧ (∃ a n c, psv = .slice a n c) ∧ (x.k = 5 → Parts W psv l)
theorem Parts.below {W W' : World} {psv : Value} {l : List (It × Value)} (h : Parts W psv l) (hb : Below W.heap.size W W') : Parts W' psv l := by
  obtain ⟨g, o, cp, e, h1, h2, h3, h4⟩ := h
  exact ⟨g, o, cp, e, h1, h2, fun j hj => Nat.lt_of_lt_of_le (h3 j hj) hb.size, fun j hj => (h4 j hj).below hb (h3 j hj)⟩
theorem ItemOk.below {W W' : World} {x : It} {psv : Value} {l : List (It × Value)} (h : ItemOk W x psv l) (hb : Below W.heap.size W W') : ItemOk W' x psv l := ⟨h.1, h.2.1, h.2.2.1, fun e => (h.2.2.2 e).below hb⟩
/-- a reader: its closures, and the map that it reads by -/
def Reader (W : World) (rv mv : Value) : Prop :=
  ∃ kb p1 p2 p3 : Nat, rv = .func (.func 34) #[] #[.pointer (some ⟨p3, 0, none⟩), .pointer (some ⟨p1, 0, none⟩)] ∧ W.heap[p3]? = some (.cells #[.func (.func 52) #[] #[.pointer (some ⟨p2, 0, none⟩)]] 68 (0, 0)) ∧ W.heap[p1]? = some (.cells #[.func (.func 47) #[] #[.pointer (some ⟨kb, 0, none⟩)]] 68 (0, 0)) ∧ W.heap[p2]? = some (.cells #[.func (.func 47) #[] #[.pointer (some ⟨kb, 0, none⟩)]] 68 (0, 0)) ∧ W.heap[kb]? = some (.cells #[mv] 28 (0, 0))
theorem Reader.kt {W W' : World} {rv mv : Value} (h : Reader W rv mv) (h1 : KT 68 W W') (h2 : KT 28 W W') : Reader W' rv mv := by
  obtain ⟨kb, p1, p2, p3, e, a, b, c, d⟩ := h
  exact ⟨kb, p1, p2, p3, e, h1 _ _ _ a, h1 _ _ _ b, h1 _ _ _ c, h2 _ _ _ d⟩
theorem cell_one {W : World} {b : Nat} {v : Value} {t : TypeId} (h : W.heap[b]? = some (.cells #[v] t (0, 0))) : W.cell? ⟨b, 0, none⟩ = some v := by simp [World.cell?, h]
theorem ansN_le {B B' : Nat} {c : Int} {r : List (Int × Int)} {e : Ending} {W : World} (h : AnsN B c r e W) (hb : B' ≤ B) : AnsN B' c r e W := by
  obtain ⟨v, e, h⟩ := h
  refine ⟨v, e, ?_⟩
  split at h
  · rename_i h0; rw [if_pos h0]; exact h.le hb
  · rename_i h0; rw [if_neg h0]; exact h
set_option maxHeartbeats 4000000 in
theorem item_any (x : It) (psv : Value) (l : List (It × Value)) (rv mv : Value) (K : ByteArray → Option (List (Int × Int))) (w : World) (hT : Tab w) (hx : ItemOk w x psv l) (p1 p3 : Nat) (hR : Reader w rv mv) (hrv : rv = .func (.func 34) #[] #[.pointer (some ⟨p3, 0, none⟩), .pointer (some ⟨p1, 0, none⟩)]) (hK : KnownV w mv K) :
    Calls Tryd.prog 34 #[x.val psv, .pointer (some ⟨p3, 0, none⟩), .pointer (some ⟨p1, 0, none⟩)] w fun e w' => ∃ c r, SetC K x (l.map Prod.fst) c r ∧ AnsN w.heap.size c r e w' ∧ Below w.heap.size w w' := by
  obtain ⟨kb, q1, p2, q3, e, h3, h1, h2, h0⟩ := hR
  rw [hrv] at e
  simp only [Value.func.injEq, Array.mk.injEq, List.cons.injEq, Value.pointer.injEq, Option.some.injEq, Addr.mk.injEq, and_true, true_and] at e
  obtain ⟨rfl, rfl⟩ := e
  have HB : Hid (∀ o, Below w.heap.size w (w.alloc o)) := fun o => (Below.refl _ _).alloc (Nat.le_refl _) _
  have c3 : ∀ o, (w.alloc o).cell? ⟨p3, 0, none⟩ = some (.func (.func 52) #[] #[.pointer (some ⟨p2, 0, none⟩)]) := fun o => cell_up (cell_one h3) o
  have c1 : ∀ o, (w.alloc o).cell? ⟨p1, 0, none⟩ = some (.func (.func 47) #[] #[.pointer (some ⟨kb, 0, none⟩)]) := fun o => cell_up (cell_one h1) o
  have HA : Hid (∀ W, Below w.heap.size w W → Calls Tryd.prog 35 #[] W fun e w' => ∃ v, e = .returned v ∧ OwnR w' w.heap.size v allU ∧ Below w.heap.size w w') := fun W hW => (any_any W (hT.below hW hT.pos)).mono (by rintro e w' ⟨v, rfl, h1, h2⟩; exact ⟨v, rfl, h1.le hW.size, hW.trans (h2.mono hW.size)⟩)
  have HP : Hid (∀ W, Below w.heap.size w W → Calls Tryd.prog 47 #[x.val psv, .pointer (some ⟨kb, 0, none⟩)] W fun e w' => AnsN w.heap.size (plainC K x) (plainL K x) e w' ∧ Below w.heap.size w w') := fun W hW =>
    (plain_any x psv kb mv K W (hT.below hW hT.pos) hx.1 hx.2.1 ((hW.cell (p := ⟨kb, 0, none⟩) (cell_lt (cell_one h0))).trans (cell_one h0)) (hK.below hW)).mono (fun e w' ⟨h1, h2⟩ => ⟨ansN_le h1 hW.size, hW.trans (h2.mono hW.size)⟩)
  have HG : Hid (x.k = 5 → ∀ W, Below w.heap.size w W → Calls Tryd.prog 36 #[itv x.k x.u x.nm psv x.lo x.hi x.nt x.ky, .func (.func 52) #[] #[.pointer (some ⟨p2, 0, none⟩)]] W fun e w' => ∃ c r, GN K x.nt (l.map Prod.fst) c r ∧ AnsN w.heap.size c r e w' ∧ Below w.heap.size w w') := fun h5 => by
    obtain ⟨g, o, cp, rfl, g1, g2, g3, g4⟩ := hx.2.2.2 h5
    refine fun W hW => ?_
    refine (gather_walk x.k x.u x.nm x.lo x.hi x.nt x.ky g o cp l p2 kb mv K W (hT.below hW hT.pos) g1 g2 (fun j hj => Nat.lt_of_lt_of_le (g3 j hj) hW.size) (fun j hj => (g4 j hj).below hW (g3 j hj)) ((hW.cell (p := ⟨p2, 0, none⟩) (cell_lt (cell_one h2))).trans (cell_one h2)) ((hW.cell (p := ⟨kb, 0, none⟩) (cell_lt (cell_one h0))).trans (cell_one h0)) (hK.below hW)).mono ?_
    rintro e w' ⟨c, r, a1, a2, a3⟩
    exact ⟨c, r, a1, ansN_le a2 hW.size, hW.trans (a3.mono hW.size)⟩
  obtain ⟨pa, pn, pcp, rfl⟩ := hx.2.2.1
  clear hT hx h0 h1 h2 h3 hK hrv
  obtain ⟨k, u, nm, lo, hi, nt, ky⟩ := x
  simp only at HG
  by_cases h4 : k = 4
  · subst h4
    clear HP HG
    go_enter Tryd.func34, Tryd.ntmps34
    go_wp2_with fail
    refine (HA.out _ (HB.out _)).mono ?_
    rintro e w1 ⟨v, rfl, hO, hb⟩
    have HO : Hid (OwnR w1 w.heap.size v allU) := hO
    clear hO
    go_wp2
    exact bodyPost_ret (v := .tuple #[v, .int .i64 0]) (by simp [results, Tryd.f34, go_sem]) rfl ⟨0, allU, .inl ⟨rfl, rfl, rfl⟩, ⟨v, rfl, HO.out⟩, hb⟩
  by_cases h5 : k = 5
  · subst h5
    have hG := HG.out rfl
    have HG2 : Hid (∀ W, Below w.heap.size w W → Calls Tryd.prog 36 #[itv 5 u nm (.slice pa pn pcp) lo hi nt ky, .func (.func 52) #[] #[.pointer (some ⟨p2, 0, none⟩)]] W fun e w' => ∃ c r v, GN K nt (l.map Prod.fst) c r ∧ e = .returned (.tuple #[v, .int .i64 c]) ∧ (if c = 0 then OwnR w' w.heap.size v r else v = .slice none 0 0) ∧ Below w.heap.size w w') := fun W hW => (hG W hW).mono (by rintro e w' ⟨c, r, h1, ⟨v, h2, h3⟩, h4⟩; exact ⟨c, r, v, h1, h2, h3, h4⟩)
    clear HP HG hG HA
    go_enter Tryd.func34, Tryd.ntmps34
    go_wp2_with fail
    refine (HG2.out _ (HB.out _)).mono ?_
    rintro e w1 ⟨c, r, v, hGR, rfl, hv, hb⟩
    have HV : Hid (GN K nt (l.map Prod.fst) c r ∧ (if c = 0 then OwnR w1 w.heap.size v r else v = .slice none 0 0)) := ⟨hGR, hv⟩
    clear hGR hv
    go_wp2
    exact bodyPost_ret (v := .tuple #[v, .int .i64 c]) (by simp [results, Tryd.f34, go_sem]) rfl ⟨c, r, .inr (.inl ⟨rfl, HV.out.1⟩), ⟨v, rfl, HV.out.2⟩, hb⟩
  · have e4 : (k == 4) = false := by simpa using h4
    have e5 : (k == 5) = false := by simpa using h5
    obtain ⟨c, hc⟩ : ∃ c, plainC K ⟨k, u, nm, lo, hi, nt, ky⟩ = c := ⟨_, rfl⟩
    obtain ⟨r, hr⟩ : ∃ r, plainL K ⟨k, u, nm, lo, hi, nt, ky⟩ = r := ⟨_, rfl⟩
    rw [hc, hr] at HP
    have HF : Hid (SetC K ⟨k, u, nm, lo, hi, nt, ky⟩ (l.map Prod.fst) c r) := .inr (.inr ⟨h4, h5, hc.symm, hr.symm⟩)
    clear HG HA hc hr
    go_enter Tryd.func34, Tryd.ntmps34
    go_wp2_with fail
    refine (HP.out _ (HB.out _)).mono ?_
    rintro e w1 ⟨⟨v, rfl, hv⟩, hb⟩
    have HV : Hid (if c = 0 then OwnR w1 w.heap.size v r else v = .slice none 0 0) := hv
    clear hv
    go_wp2
    exact bodyPost_ret (v := .tuple #[v, .int .i64 c]) (by simp [results, Tryd.f34, go_sem]) rfl ⟨c, r, HF.out, ⟨v, rfl, HV.out⟩, hb⟩
end Go.Proofs
