/-
  The reference's Of: the same words as ours.
-/
import Derived.Shelf.Abstract
import Derived.Shelf.RegionOpen
import Derived.WalkKit
import Derived.WalkSpells
import Derived.WalkLawsBesides
import Derived.OwnWalk
import Derived.BigQuiet
import Derived.Deep.QuietTactic
import Derived.Deep.LoopGhost
import Derived.Deep.RegionWith
import Derived.Deep.AppendLies
import Derived.Deep.DeepCutAuto
import Derived.Laws.EntriesVeiled
import Derived.Lib.OthersKept
import Derived.Maps.AppendAt
import Derived.Maps.OwnSet
import Derived.StringKeys
import Derived.WalkMore
import Derived.Lib.SmallJoins
import Derived.Test.YtmgkolelcflcbaaDoorRe
import Derived.Test.YtmgkolelcflcbaaDoorVm
import Derived.Test.YtmgkolelcflcbaaDoorRf
namespace Go.Proofs
open Go.RowKit Go.Shelf

set_option maxRecDepth 100000
attribute [local go_sem] Oper.semAt_some

theorem rfew_ans (v : Value) (r : List (Int × Int)) (B : Nat) (w : World) (h : OwnR w B v r) : Calls Tryd.prog 48 #[v] w fun e w' => Ans B r e w' ∧ w' = w := by
  obtain ⟨a, c, rfl, _, _⟩ := OwnR.rs h
  refine (rfew_any a r.length c w).mono ?_
  rintro e w' ⟨rfl, rfl⟩
  refine ⟨?_, rfl⟩
  by_cases hl : r.length ≤ 512
  · rw [if_pos hl]
    exact .inl ⟨hl, _, rfl, h⟩
  · rw [if_neg hl]
    exact .inr ⟨by omega, rfl⟩
theorem runited_any (v : Value) (l : List (Int × Int)) (w : World) (h : Rs w v l) (hn : 3 * l.length < 8796093022208) : Calls Tryd.prog 49 #[v] w fun e w' => ∃ v r, e = .returned v ∧ Canon l r ∧ OwnR w' w.heap.size v r ∧ Below w.heap.size w w' := by
  obtain ⟨A, c, rfl, _, h⟩ := h
  exact united_walk A c l w h hn
set_option maxHeartbeats 2000000 in
theorem rof_any (v : Value) (l : List (Int × Int)) (w : World) (h : Rs w v l) (hn : 3 * l.length < 8796093022208) : Calls Tryd.prog 11 #[v] w fun e w' => ∃ r, Canon l r ∧ Ans w.heap.size r e w' ∧ Below w.heap.size w w' := by
  have HU : Hid (Calls Tryd.prog 49 #[v] w fun e w' => ∃ v r, e = .returned v ∧ Canon l r ∧ OwnR w' w.heap.size v r ∧ Below w.heap.size w w') := runited_any v l w h hn
  clear h hn
  go_enter Tryd.func11, Tryd.ntmps11
  go_wp2_with fail
  refine HU.out.mono ?_
  rintro e w1 ⟨v1, r, rfl, hC, hO, hb⟩
  have HO : Hid (OwnR w1 w.heap.size v1 r ∧ Canon l r) := ⟨hO, hC⟩
  clear hO hC
  go_wp2_with fail
  refine (rfew_ans v1 r _ w1 HO.out.1).mono ?_
  rintro e w2 ⟨hans, rfl⟩
  obtain ⟨v5, n5, rfl⟩ := hans.pair
  have HE : Hid (Ans w.heap.size r (.returned (.tuple #[v5, .int .i64 n5])) w2) := hans
  clear hans
  go_wp2
  go_ret2
  exact ⟨r, HO.out.2, HE.out, hb⟩
end Go.Proofs
