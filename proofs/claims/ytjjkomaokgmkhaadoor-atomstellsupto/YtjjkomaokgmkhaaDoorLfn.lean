/-
  An atom begins, whole.
-/
import Derived.RangeFuncNested
import Derived.RangeFuncBound
import Derived.RangeFuncCalls
import Derived.RangeFuncLeaves
import Derived.Shelf.Abstract
import Derived.Shelf.RegionOpen
import Derived.WalkKit
import Derived.WalkSpells
import Derived.WalkLawsBesides
import Derived.OwnWalkIn
import Derived.TacticsInMore
import Derived.LoopNIn
import Derived.LoopIn
import Derived.BigQuiet
import Derived.RegionIn
import Derived.Deep.QuietTactic
import Derived.Deep.RegionWith
import Derived.Lib.OthersKept
import Derived.Maps.AppendAt
import Derived.Lib.SmallJoins
import Derived.Shelf.SlSortCmp.QuietGrown
import Derived.Test.YtjjkomaokgmkhaaDoorLen
namespace Go.Proofs
open Go.RowKit Go.Shelf

set_option maxRecDepth 100000
attribute [local go_sem] Oper.semAt_some
attribute [local go_sem ↓] Go.wp_at_zero Go.wp_at_succ

theorem begin_any {w : World} {base B : Nat} {sv bv pv wv mv : Value} {n mh : Nat} {st bg : List Int} {sps : List (Value × List (Int × Int))} {wh : List Nat} (h : TT w base B sv bv pv wv mv n mh st bg sps wh) (at' atom : Int) (hbl : bg.length = st.length) (hm : st.length ≤ 1000000000000) (hat' : 0 ≤ at' ∧ at' ≤ 1114368)
    (hok : ∀ x, bg.getLast? = some x → x = -1 ∨ ∃ e : Nat, x = (e : Int) ∧ e < sps.length) (hll : ∀ x ∈ sps, x.2.length ≤ 1000000000000) (hsl : sps.length ≤ 1000000000000) :
    Calls Tryd.prog 38 #[.pointer (some ⟨B, 0, none⟩), .int .i64 at', .int .i64 atom] w fun e w' => e = .returned (.tuple #[]) ∧ BQ w base B sv bv pv wv mv n mh st bg sps wh at' atom w' := by
  obtain ⟨sa, sc, hs⟩ := own_len h.s
  obtain ⟨ba, bc, hb⟩ := own_len h.b
  subst hs
  subst hb
  by_cases h0 : st = []
  · refine (begin_nil h at' atom h0 (List.eq_nil_of_length_eq_zero (by rw [hbl, h0]; rfl))).mono ?_
    rintro e w' ⟨rfl, hq⟩
    exact ⟨rfl, hq.out⟩
  · have hp : st.length ≠ 0 := fun e => h0 (List.eq_nil_of_length_eq_zero e)
    obtain ⟨x, hx⟩ : ∃ x, bg.getLast? = some x := by
      cases e1 : bg.getLast? with
      | none => rw [List.getLast?_eq_none_iff] at e1; rw [e1] at hbl; simp at hbl; omega
      | some x => exact ⟨x, rfl⟩
    rcases hok x hx with rfl | ⟨e, rfl, he⟩
    · refine (begin_out h at' atom (m := st.length - 1) (by omega) (by omega) (by omega) hx).mono ?_
      rintro e w' ⟨rfl, hq⟩
      exact ⟨rfl, hq.out⟩
    · refine (begin_in h at' atom (m := st.length - 1) (by omega) (by omega) (by omega) hat' hx (v := sps[e].1) (l := sps[e].2) (List.getElem?_eq_getElem he) (hll _ (List.getElem_mem he)) hsl).mono ?_
      rintro e w' ⟨rfl, hq⟩
      exact ⟨rfl, hq.out⟩
end Go.Proofs
