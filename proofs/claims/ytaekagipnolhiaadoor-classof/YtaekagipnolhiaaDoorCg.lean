/-
  The reference's Of and Names: the same sets, the same names.
-/
import Derived.RangeFuncNested
import Derived.RangeFuncBound
import Derived.RangeFuncCalls
import Derived.RangeFuncLeaves
import Derived.Shelf.SlSorted.Search
import Derived.Deep.MidRow
import Derived.Maps.OwnSet
import Derived.Maps.OwnOps
import Derived.Shelf.Abstract
import Derived.Shelf.RegionOpen
import Derived.WalkKit
import Derived.WalkSpells
import Derived.WalkLawsBesides
import Derived.OwnWalkIn
import Derived.TacticsInMore
import Derived.LoopNIn
import Derived.LoopIn
import Derived.BigQuiet
import Derived.RegionIn
import Derived.Deep.QuietTactic
import Derived.Deep.RegionWith
import Derived.Lib.OthersKept
import Derived.Maps.AppendAt
import Derived.Lib.SmallJoins
import Derived.Shelf.SlSortCmp.QuietGrown
import Derived.Deep.DrawnRows
import Derived.Test.YtaekagipnolhiaaDoorCe
import Derived.Test.YtaekagipnolhiaaDoorCn
namespace Go.Proofs
open Go.RowKit Go.Shelf

set_option maxRecDepth 100000
attribute [local go_sem] Oper.semAt_some

theorem TblFrom.grown {w w' : World} {B H : Nat} (h : TblFrom w B H) (k : Grown w w') : TblFrom w' B H := fun j x hx => by
  obtain ⟨h1, b, h2, h3, h4⟩ := h j x hx
  exact ⟨k.cellv h1, b, h2, k.cellv h3, h4.grown k⟩
theorem SpAt.rs {w : World} {b : Nat} {s : List (Int × Int)} (h : SpAt w b s) : Rs w (.slice (some ⟨b, 0, none⟩) s.length s.length) s :=
  ⟨_, _, rfl, Nat.le_refl _, .inr ⟨b, 0, rfl, fun j hj => by
    have := h j (s[j]) (List.getElem?_eq_getElem hj)
    rw [rg_lt hj, Nat.zero_add]
    exact this⟩⟩
theorem str_ne {a b : ByteArray} (h : a ≠ b) : (a.toList == b.toList) = false := by
  rw [ByteArray.toList_eq, ByteArray.toList_eq]
  by_cases e : a.data.toList = b.data.toList
  · exact absurd (Go.WideShapes.bytes_inj e) h
  · simpa using e
set_option maxHeartbeats 2000000 in
theorem rof_none (s : ByteArray) (w : World) (hn : atOf s = none) : Calls Tryd.prog 9 #[.string s] w fun e w' => e = .returned (.tuple #[.slice none 0 0, .int .i64 30]) ∧ Grown w w' := by
  have HN : Hid (∀ j, j < 24 → nmAt j ≠ s) := atOf_none hn
  clear hn
  go_enter Tryd.func9, Tryd.ntmps9
  go_wp2_with fail
  refine (rows_any _).mono ?_
  rintro e w1 ⟨B, rfl, hG, hB, hT⟩
  have HT : Hid (TblFrom w1 B w.heap.size) := hT
  have HG : Hid (Grown w w1) := hG
  clear hT hG hB
  go_wp2
  go_loopw [5] (fun vi wr => ∃ j : Nat, vi = .int .i64 j ∧ j ≤ 24 ∧ wr = w1) (fun vi _ => 24 - (intOf vi).toNat)
  case atStart => exact ⟨0, rfl, by omega, rfl⟩
  case round =>
    obtain ⟨j, rfl, hj, rfl⟩ := hrel
    by_cases hjm : j = 24
    · subst hjm
      go_wp2
      go_ret2
      exact ⟨rfl, HG.out⟩
    · obtain ⟨x, hx, hxn⟩ := nm_some (k := j) (by omega)
      obtain ⟨c0, -⟩ := HT.out j x hx
      have hne := str_ne (HN.out j (by omega))
      rw [hxn] at c0
      obtain ⟨z, hz⟩ : ∃ z, nmAt j = z := ⟨_, rfl⟩
      rw [hz] at c0 hne
      clear hz hxn hx
      go_wp2
      exact ⟨⟨j + 1, by go_num, by omega, by trivial⟩, by simp [intOf]; omega⟩
set_option maxHeartbeats 2000000 in
theorem rof_some (s : ByteArray) (k : Nat) (w : World) (hn : atOf s = some k) : Calls Tryd.prog 9 #[.string s] w fun e w' => ∃ v, e = .returned (.tuple #[v, .int .i64 0]) ∧ Rs w' v (spOf k) ∧ Grown w w' := by
  obtain ⟨hk, rfl⟩ := atOf_some hn
  clear hn
  obtain ⟨s, hs⟩ : ∃ s, nmAt k = s := ⟨_, rfl⟩
  have HN : Hid (∀ j, j < 24 → j ≠ k → nmAt j ≠ s) := fun j hj hne e => nm_ne j hj k hk hne (by rw [e, hs])
  have HS : Hid (nmAt k = s) := hs
  rw [hs]
  clear hs
  go_enter Tryd.func9, Tryd.ntmps9
  go_wp2_with fail
  refine (rows_any _).mono ?_
  rintro e w1 ⟨B, rfl, hG, hB, hT⟩
  have HT : Hid (TblFrom w1 B w.heap.size) := hT
  have HG : Hid (Grown w w1) := hG
  clear hT hG hB
  go_wp2
  go_loopw [5] (fun vi wr => ∃ j : Nat, vi = .int .i64 j ∧ j ≤ k ∧ wr = w1) (fun vi _ => 24 - (intOf vi).toNat)
  case atStart => exact ⟨0, rfl, by omega, rfl⟩
  case round =>
    obtain ⟨j, rfl, hj, rfl⟩ := hrel
    by_cases hjm : j = k
    · subst hjm
      obtain ⟨x, hx, hxn, hx2⟩ := sp_some hk
      obtain ⟨c0, b, -, c1, c2⟩ := HT.out j x hx
      rw [hxn, HS.out] at c0
      have HR : Hid (Rs wr (.slice (some ⟨b, 0, none⟩) x.2.length x.2.length) (spOf j)) := by rw [← hx2]; exact c2.rs
      obtain ⟨m, hm⟩ : ∃ m, x.2.length = m := ⟨_, rfl⟩
      rw [hm] at c1 HR
      clear hm hxn hx hx2 c2
      go_wp2
      go_ret2
      exact ⟨_, rfl, HR.out, HG.out⟩
    · obtain ⟨x, hx, hxn⟩ := nm_some (k := j) (by omega)
      obtain ⟨c0, -⟩ := HT.out j x hx
      have hne := str_ne (HN.out j (by omega) hjm)
      rw [hxn] at c0
      obtain ⟨z, hz⟩ : ∃ z, nmAt j = z := ⟨_, rfl⟩
      rw [hz] at c0 hne
      clear hz hxn hx
      go_wp2
      exact ⟨⟨j + 1, by go_num, by omega, by trivial⟩, by simp [intOf]; omega⟩
set_option maxHeartbeats 2000000 in
theorem rnames_any (w : World) : Calls Tryd.prog 11 #[] w fun e w' => ∃ v, e = .returned v ∧ OwnS w' w.heap.size v nms ∧ Below w.heap.size w w' := by
  go_enter Tryd.func11, Tryd.ntmps11
  go_wp2_with fail
  refine (rows_any _).mono ?_
  rintro e w1 ⟨B, rfl, hG, hB, hT⟩
  have HT : Hid (TblFrom w1 B w.heap.size) := hT
  have HW : Hid (Below w.heap.size w w1) := hG.below
  have hzz : w.heap.size ≤ w1.heap.size := hG.size
  clear hT hG hB
  go_wp2
  go_loopw [2, 3] (fun vs vi wr => ∃ j : Nat, vi = .int .i64 j ∧ j ≤ 24 ∧ OwnS wr w1.heap.size vs (nms.take j) ∧ Below w1.heap.size w1 wr) (fun _ vi _ => 24 - (intOf vi).toNat)
  case atStart => exact ⟨0, rfl, by omega, World.ownsRow_lit w1 _ 0 (Nat.le_refl _) (by unfold maxLen; omega) rfl, (Below.refl _ w1).alloc (Nat.le_refl _) _⟩
  case round =>
    obtain ⟨j, rfl, hj, hO, hBr⟩ := hrel
    have hz := hBr.size
    by_cases hjm : j = 24
    · subst hjm
      go_wp2
      go_ret
      exact ⟨_, rfl, OwnS.le hO hzz, HW.out.trans (hBr.mono hzz)⟩
    · obtain ⟨x, hx, hxn⟩ := nm_some (k := j) (by omega)
      obtain ⟨c0, b, -, c1, -⟩ := HT.out.below hBr (Nat.le_refl _) j x hx
      obtain ⟨s, hs⟩ : ∃ s, s = x.1 := ⟨_, rfl⟩
      rw [← hs] at c0
      have HN : Hid (nms.take (j + 1) = nms.take j ++ [s]) := by show _ = _; rw [nms_take (by omega), hs, hxn]
      have htk : (nms.take j).length = j := by rw [List.length_take, nms_len]; omega
      clear hs hxn hx c1
      go_wp2_with (at_builtin; go_must (refine push_S rfl _ _ rfl w1.heap.size _ _ rfl (hO.alloc _) _ _ s rfl (by simp) (by omega) (by simp; omega) ?_); intro v' w3 hO1 _ hb1)
      exact ⟨⟨j + 1, by go_num, by omega, by rw [HN.out]; exact hO1, (hBr.alloc hz _).trans hb1⟩, by simp [intOf]; omega⟩
end Go.Proofs
