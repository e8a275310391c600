/-
  places: the map that tells where in the table a name stands.
-/
import Derived.RangeFuncNested
import Derived.RangeFuncBound
import Derived.RangeFuncCalls
import Derived.RangeFuncLeaves
import Derived.Shelf.SlSorted.Search
import Derived.Deep.MidRow
import Derived.Maps.OwnSet
import Derived.Maps.OwnOps
import Derived.Shelf.Abstract
import Derived.Shelf.RegionOpen
import Derived.WalkKit
import Derived.WalkSpells
import Derived.WalkLawsBesides
import Derived.OwnWalkIn
import Derived.TacticsInMore
import Derived.LoopNIn
import Derived.LoopIn
import Derived.BigQuiet
import Derived.RegionIn
import Derived.Deep.QuietTactic
import Derived.Deep.RegionWith
import Derived.Lib.OthersKept
import Derived.Maps.AppendAt
import Derived.Lib.SmallJoins
import Derived.Shelf.SlSortCmp.QuietGrown
import Derived.Deep.DrawnRows
import Derived.Test.YtaekagipnolhiaaDoorCc
namespace Go.Proofs
open Go.RowKit Go.Shelf

set_option maxRecDepth 100000
attribute [local go_sem] Oper.semAt_some
open Go.Maps
theorem law9 : Keyed Tryd.prog 9 := string_keyed Tryd.underlying9
theorem make24 (w : World) : (Instr.makeMap 42 (some (.int .i64 24))).run Tryd.prog w = .ok (.map (some w.heap.size)) (w.alloc (.map #[] 0)) := by kernel_rfl
/-- the name at a place -/
def nmAt (k : Nat) : ByteArray := ((tbl[k]?).map (·.1)).getD ⟨#[]⟩
/-- what the map reads as, the first k names put in -/
def Dm : Nat → DataW Unit
  | 0 => .map []
  | k + 1 => (Dm k).put (.string (nmAt k).data.toList) (.lit (.int .i64 k))
theorem nm_some {k : Nat} (hk : k < 24) : ∃ x, tbl[k]? = some x ∧ x.1 = nmAt k := by
  have : k < tbl.length := hk
  refine ⟨tbl[k], List.getElem?_eq_getElem this, ?_⟩
  simp [nmAt, List.getElem?_eq_getElem this]
theorem nm_size : ∀ k, k < 24 → (nmAt k).size ≤ maxLen := by
  have h : ∀ k, k < 24 → (nmAt k).size ≤ 8 := by decide
  intro k hk
  have := h k hk
  unfold maxLen
  omega
theorem nm_ne : ∀ i, i < 24 → ∀ j, j < 24 → i ≠ j → (nmAt i).data.toList ≠ (nmAt j).data.toList := by decide +kernel
theorem Dm_isMap : ∀ k, IsMap (Dm k)
  | 0 => isMap_empty
  | k + 1 => (Dm_isMap k).put _ _
theorem Dm_there : ∀ (k : Nat), k ≤ 24 → ∀ j, j < k → Maps.has (Dm k) (.string (nmAt j).data.toList) = true ∧ ∀ z, (Dm k).atKey (.string (nmAt j).data.toList) z = .lit (.int .i64 j)
  | 0, _, j, hj => by omega
  | k + 1, hk, j, hj => by
    by_cases e : j = k
    · subst e
      exact ⟨has_put_same (Dm_isMap j) (by trivial) _, fun z => atKey_put_same (Dm_isMap j) (by trivial) _ z⟩
    · have hne : Lit.string (nmAt j).data.toList ≠ Lit.string (nmAt k).data.toList := fun h => nm_ne j (by omega) k (by omega) e (by injection h)
      obtain ⟨i1, i2⟩ := Dm_there k (by omega) j (by omega)
      exact ⟨(has_put_other hne _).trans i1, fun z => (atKey_put_other hne _ z).trans (i2 z)⟩
theorem Dm_not (s : ByteArray) : ∀ (k : Nat), (∀ j, j < k → nmAt j ≠ s) → Maps.has (Dm k) (.string s.data.toList) = false
  | 0, _ => rfl
  | k + 1, h => by
    have hne : Lit.string s.data.toList ≠ Lit.string (nmAt k).data.toList := fun e => h k (by omega) (by
      injection e with e
      have : (nmAt k).data = s.data := Array.toList_inj.1 e.symm
      cases hh : nmAt k; cases s; simp_all)
    exact (has_put_other hne _).trans (Dm_not s k fun j hj => h j (by omega))
theorem TblFrom.below {w w' : World} {B H : Nat} (h : TblFrom w B H) {n : Nat} (k : Below n w w') (hn : w.heap.size ≤ n) : TblFrom w' B H := fun j x hx => by
  have cellv : ∀ {a : Addr} {v : Value}, w.cell? a = some v → w'.cell? a = some v := fun {a v} hv => by
    obtain ⟨o, ho, _⟩ := cells_of_cell hv
    rw [k.cell (Nat.lt_of_lt_of_le (Array.getElem?_eq_some_iff.1 ho).1 hn)]; exact hv
  obtain ⟨h1, b, h2, h3, h4⟩ := h j x hx
  exact ⟨cellv h1, b, h2, cellv h3, fun i p hp => ⟨cellv (h4 i p hp).1, cellv (h4 i p hp).2⟩⟩
set_option maxHeartbeats 2000000 in
theorem places_any (B H : Nat) (w : World) (hT : TblFrom w B H) : Calls Tryd.prog 20 #[.slice (some ⟨B, 0, none⟩) 24 24] w fun e w' => e = .returned (.map (some w.heap.size)) ∧ w'.ownsMap Tryd.prog 9 (plainElem Tryd.prog 3) w.heap.size 24 (Dm 24) ∧ Below w.heap.size w w' := by
  have hmm := make24
  have HT : Hid (TblFrom w B H) := hT
  clear hT
  go_enter Tryd.func20, Tryd.ntmps20
  go_wp2
  go_loopw [11] (fun i wr => ∃ k : Nat, k ≤ 24 ∧ i = .int .i64 k ∧ wr.ownsMap Tryd.prog 9 (plainElem Tryd.prog 3) w.heap.size k (Dm k) ∧ Below w.heap.size w wr)
    (fun i _ => 24 - (intOf i).toNat)
  case atStart => exact ⟨0, Nat.zero_le _, rfl, World.ownsMap_made _ _ _ _, (Below.refl _ _).alloc (Nat.le_refl _) _⟩
  case round =>
    obtain ⟨k, hk, rfl, hown, hnx⟩ := hrel
    by_cases hk4 : k = 24
    · subst hk4
      go_wp2
      go_ret
      exact ⟨rfl, hown, hnx⟩
    · obtain ⟨x, hx, hxn⟩ := nm_some (k := k) (by omega)
      obtain ⟨c0, b, -, c1, -⟩ := HT.out.below hnx (Nat.le_refl _) k x hx
      obtain ⟨s, hs⟩ : ∃ s, s = x.1 := ⟨_, rfl⟩
      obtain ⟨m, hm⟩ : ∃ m, m = x.2.length := ⟨_, rfl⟩
      rw [← hs] at c0
      rw [← hm] at c1
      have hkey : keyOf Tryd.prog 9 (.string s) = some (.string (nmAt k).data.toList) := by
        rw [hs, hxn]; exact Go.WideMaps.keyOf_string_mk Tryd.underlying9 (nm_size k (by omega))
      clear hs hm hxn hx
      go_wp2_with (first
        | (at_mapUpdate; refine wpList_mapUpdate_own _ rfl _ _ _ 42 rfl 9 3 law9 Tryd.underlying42 _ w.heap.size k _ rfl (hown.alloc _) (by unfold maxLen; omega) _ _ _ rfl rfl hkey _ [] (plainElem_int Tryd.underlying3 (WalkArith.wf_i64 (by omega))) ?_)
        | go_in)
      intro w1 hown1 hgrow1
      have R1 : w1.ownsMap Tryd.prog 9 (plainElem Tryd.prog 3) w.heap.size (k + 1) (Dm (k + 1)) := hown1
      have hup := (hnx.alloc (Nat.le_trans hnx.size (Nat.le_refl _)) (.cells #[.string s, .slice (some ⟨b, 0, none⟩) m m] 46))
      have R2 := hup.grown hgrow1 hup.size (fun j hj => by cases hj; exact Nat.le_refl _)
      clear hown1 hgrow1 hown c0 c1 hup
      go_wp2
      go_roundw
      case rel => exact ⟨k + 1, by omega, by go_num, R1, R2⟩
      case measure => simp [intOf]; omega
end Go.Proofs
