/-
  class.Of: the set of a name, laid anew.
-/
import Derived.RangeFuncNested
import Derived.RangeFuncBound
import Derived.RangeFuncCalls
import Derived.RangeFuncLeaves
import Derived.Shelf.SlSorted.Search
import Derived.Deep.MidRow
import Derived.Maps.OwnSet
import Derived.Maps.OwnOps
import Derived.Shelf.Abstract
import Derived.Shelf.RegionOpen
import Derived.WalkKit
import Derived.WalkSpells
import Derived.WalkLawsBesides
import Derived.OwnWalkIn
import Derived.TacticsInMore
import Derived.LoopNIn
import Derived.LoopIn
import Derived.BigQuiet
import Derived.RegionIn
import Derived.Deep.QuietTactic
import Derived.Deep.RegionWith
import Derived.Lib.OthersKept
import Derived.Maps.AppendAt
import Derived.Lib.SmallJoins
import Derived.Shelf.SlSortCmp.QuietGrown
import Derived.Deep.DrawnRows
import Derived.Test.YtaekagipnolhiaaDoorCs
namespace Go.Proofs
open Go.RowKit Go.Shelf

set_option maxRecDepth 100000
attribute [local go_sem] Oper.semAt_some
open Go.Maps
theorem zero3 (w : World) : (zeroValue 3).run Tryd.prog w = .ok (.int .i64 0) w := by kernel_rfl
/-- the place of a name -/
def atOf (s : ByteArray) : Option Nat := (List.range 24).find? (fun j => decide (nmAt j = s))
theorem atOf_some {s : ByteArray} {k : Nat} (h : atOf s = some k) : k < 24 ∧ nmAt k = s := by
  have h1 := List.mem_of_find?_eq_some h
  have h2 := List.find?_some h
  simp at h1 h2
  exact ⟨h1, h2⟩
theorem atOf_none {s : ByteArray} (h : atOf s = none) : ∀ j, j < 24 → nmAt j ≠ s := by
  unfold atOf at h
  rw [List.find?_eq_none] at h
  intro j hj
  have := h j (by simpa using hj)
  simpa using this
/-- the ranges at a place -/
def spOf (k : Nat) : List (Int × Int) := ((tbl[k]?).map (·.2)).getD []
theorem sp_some {k : Nat} (hk : k < 24) : ∃ x, tbl[k]? = some x ∧ x.1 = nmAt k ∧ x.2 = spOf k := by
  have : k < tbl.length := hk
  refine ⟨tbl[k], List.getElem?_eq_getElem this, ?_, ?_⟩
  · simp [nmAt, List.getElem?_eq_getElem this]
  · simp [spOf, List.getElem?_eq_getElem this]
theorem sp_len : ∀ k, k < 24 → (spOf k).length ≤ 10 := by decide
set_option maxHeartbeats 2000000 in
theorem of_none (s : ByteArray) (w : World) (hs : s.size ≤ maxLen) (hn : atOf s = none) : Calls Tryd.prog 8 #[.string s] w fun e w' => e = .returned (.tuple #[.slice none 0 0, .int .i64 30]) ∧ Below w.heap.size w w' := by
  have hkey : keyOf Tryd.prog 9 (.string s) = some (.string s.data.toList) := Go.WideMaps.keyOf_string_mk Tryd.underlying9 hs
  have hh := Dm_not s 24 (atOf_none hn)
  have HH : Hid (Maps.has (Dm 24) (.string s.data.toList) = false) := hh
  clear hh hn hs
  go_enter Tryd.func8, Tryd.ntmps8
  go_wp2_with fail
  refine (table_any _).mono ?_
  rintro e w1 ⟨B, rfl, hG, hB, hT⟩
  go_wp2_with fail
  refine (places_any B _ _ hT).mono ?_
  rintro e w2 ⟨rfl, hM, hB2⟩
  have HW : Hid (Below w.heap.size w w2) := hG.below.trans (hB2.mono hG.size)
  clear hG hB2 hT hB
  go_wp2_with (first | (at_lookup; refine wpList_lookup_own_ok_int _ rfl _ _ 42 rfl 9 3 .i64 law9 Tryd.underlying42 Tryd.underlying3 (zero3 _) _ 24 _ rfl hM _ _ rfl hkey ?_; intro c hat hwc; rw [HH.out]) | go_in)
  go_ret2
  exact ⟨rfl, HW.out⟩
theorem SpAt.below {w w' : World} {b : Nat} {s : List (Int × Int)} (h : SpAt w b s) {n : Nat} (k : Below n w w') (hn : w.heap.size ≤ n) : SpAt w' b s := fun j p hp => by
  have cellv : ∀ {a : Addr} {v : Value}, w.cell? a = some v → w'.cell? a = some v := fun {a v} hv => by
    obtain ⟨o, ho, _⟩ := cells_of_cell hv
    rw [k.cell (Nat.lt_of_lt_of_le (Array.getElem?_eq_some_iff.1 ho).1 hn)]; exact hv
  exact ⟨cellv (h j p hp).1, cellv (h j p hp).2⟩
set_option maxHeartbeats 2000000 in
theorem of_some (s : ByteArray) (k : Nat) (w : World) (hs : s.size ≤ maxLen) (hn : atOf s = some k) : Calls Tryd.prog 8 #[.string s] w fun e w' => ∃ v, e = .returned (.tuple #[v, .int .i64 0]) ∧ OwnR w' w.heap.size v (spOf k) ∧ Below w.heap.size w w' := by
  have hkey : keyOf Tryd.prog 9 (.string s) = some (.string s.data.toList) := Go.WideMaps.keyOf_string_mk Tryd.underlying9 hs
  obtain ⟨hk, rfl⟩ := atOf_some hn
  obtain ⟨hh, ha⟩ := Dm_there 24 (Nat.le_refl _) k hk
  have HH : Hid (Maps.has (Dm 24) (.string (nmAt k).data.toList) = true) := hh
  have HA : Hid (∀ z, (Dm 24).atKey (.string (nmAt k).data.toList) z = .lit (.int .i64 k)) := ha
  clear hh hn hs ha
  obtain ⟨x, hx, -, hx2⟩ := sp_some hk
  have hlen := sp_len k hk
  obtain ⟨sp, hsp⟩ : ∃ sp, spOf k = sp := ⟨_, rfl⟩
  rw [hsp] at hx2 hlen
  rw [hsp]
  clear hsp
  go_enter Tryd.func8, Tryd.ntmps8
  go_wp2_with fail
  refine (table_any _).mono ?_
  rintro e w1 ⟨B, rfl, hG, hB, hT⟩
  go_wp2_with fail
  refine (places_any B _ _ hT).mono ?_
  rintro e w2 ⟨rfl, hM, hB2⟩
  have HW : Hid (Below w.heap.size w w2) := hG.below.trans (hB2.mono hG.size)
  obtain ⟨-, b, -, c1, c2⟩ := hT.below hB2 (Nat.le_refl _) k x hx
  rw [hx2] at c1 c2
  have HS : Hid (SpAt w2 b sp) := c2
  obtain ⟨m, hm⟩ : ∃ m, sp.length = m := ⟨_, rfl⟩
  rw [hm] at c1 hlen
  have hzz : w.heap.size ≤ w2.heap.size := HW.out.size
  clear hG hB2 hT hB c2 hx hx2
  go_wp2_with (first | (at_lookup; refine wpList_lookup_own_ok_int _ rfl _ _ 42 rfl 9 3 .i64 law9 Tryd.underlying42 Tryd.underlying3 (zero3 _) _ 24 _ rfl hM _ _ rfl hkey ?_; intro c hat hwc; rw [HH.out]; obtain rfl : c = (k : Int) := (by have := (HA.out _).symm.trans hat; injection this with h; injection h with _ h; exact h.symm); clear hat hwc) | go_in)
  clear hM hkey c1
  go_loopw [7, 26] (fun vs vi wr => ∃ j : Nat, vi = .int .i64 j ∧ j ≤ m ∧ OwnR wr w2.heap.size vs (sp.take j) ∧ Below w2.heap.size w2 wr) (fun _ vi _ => m - (intOf vi).toNat)
  case atStart => exact ⟨0, rfl, by omega, OwnR.nil _ _, Below.refl _ _⟩
  case round =>
    obtain ⟨j, rfl, hj, hO, hBr⟩ := hrel
    have hz := hBr.size
    by_cases hjm : j = m
    · subst hjm
      go_wp2
      go_ret2
      have e1 : sp.take j = sp := by rw [← hm]; exact List.take_length
      rw [e1] at hO
      exact ⟨_, rfl, hO.le hzz, HW.out.trans (hBr.mono hzz)⟩
    · have hjl : j < sp.length := by omega
      obtain ⟨d0, d1⟩ := HS.out.below hBr (Nat.le_refl _) j sp[j] (List.getElem?_eq_getElem hjl)
      obtain ⟨y, hy⟩ : ∃ y, sp[j] = y := ⟨_, rfl⟩
      rw [hy] at d0 d1
      obtain ⟨y1, y2⟩ := y
      have htk : (sp.take j).length = j := by rw [List.length_take]; omega
      have hnext : sp.take (j + 1) = sp.take j ++ [(y1, y2)] := by rw [List.take_succ_eq_append_getElem hjl, hy]
      have HN : Hid (sp.take (j + 1) = sp.take j ++ [(y1, y2)]) := hnext
      clear hnext hy hjl
      go_wp2_with (at_builtin; go_must (refine push_R rfl _ _ 25 rfl Tryd.underlying25 w2.heap.size _ _ rfl ((hO.alloc _).alloc _) _ _ y1 y2 rfl (by simp) (by simp) (by omega) (by simp; omega) ?_); intro v' w3 hO1 _ hb1)
      exact ⟨⟨j + 1, by go_num, by omega, by rw [HN.out]; exact hO1, ((hBr.alloc hz _).alloc (by simp; omega) _).trans hb1⟩, by simp [intOf]; omega⟩
end Go.Proofs
