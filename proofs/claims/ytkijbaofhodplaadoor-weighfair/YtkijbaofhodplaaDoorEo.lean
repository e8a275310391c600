/-
  Check and Weight.
-/
import Derived.RangeFuncNested
import Derived.RangeFuncBound
import Derived.RangeFuncCalls
import Derived.RangeFuncLeaves
import Derived.Shelf.Abstract
import Derived.Shelf.RegionOpen
import Derived.WalkKit
import Derived.WalkSpells
import Derived.WalkLawsBesides
import Derived.OwnWalkIn
import Derived.TacticsInMore
import Derived.LoopNIn
import Derived.LoopIn
import Derived.BigQuiet
import Derived.RegionIn
import Derived.Deep.QuietTactic
import Derived.Deep.RegionWith
import Derived.Lib.OthersKept
import Derived.Maps.AppendAt
import Derived.Lib.SmallJoins
import Derived.Shelf.SlSortCmp.QuietGrown
import Derived.Test.YtkijbaofhodplaaDoorEn
namespace Go.Proofs
open Go.RowKit Go.Shelf

set_option maxRecDepth 100000
attribute [local go_sem] Oper.semAt_some
attribute [local go_sem ↓] Go.wp_at_zero Go.wp_at_succ
/-- the number and the error -/
def chkW (rs : List Rl) : Int × Int := (wgh rs).2
/-- what a unit weighs in a pass -/
def wgtP (rs : List Rl) (u : Int) : Int := match (wgh rs).1 with
  | none => 0
  | some st => if wd u = 0 then 0 else wgtK rs st.ws u rs.length
theorem wgh_some {rs : List Rl} {st : St} {c : Int × Int} (h : wgh rs = (some st, c)) : rs.length ≤ 256 ∧ ∀ r ∈ rs, Ok r := by
  unfold wgh at h
  by_cases h0 : (allE rs).2 ≠ 0
  · rw [if_pos h0] at h; injection h with h1; cases h1
  · exact allE_ok (Classical.not_not.1 h0)
theorem wgh_none {rs : List Rl} {c : Int × Int} (h : wgh rs = (none, c)) : c.2 ≠ 0 := by
  unfold wgh at h
  by_cases h0 : (allE rs).2 ≠ 0
  · rw [if_pos h0] at h; injection h with _ h1; rw [← h1]; exact h0
  · rw [if_neg h0] at h
    split at h
    · injection h with _ h1; rw [← h1]; simp
    · split at h
      · injection h with _ h1; rw [← h1]; simp
      · injection h with h1; cases h1
set_option maxHeartbeats 2000000 in
theorem wcheck_any (rv : Value) (rs : List Rl) (w : World) (hT : Tab w) (h : PsR w rv rs) : Calls Tryd.prog 13 #[.agg #[rv]] w fun e w' => e = .returned (.tuple #[.int .i64 (chkW rs).1, .int .i64 (chkW rs).2]) ∧ Below w.heap.size w w' := by
  have HC : Hid (∀ ob, Calls Tryd.prog 34 #[.agg #[rv]] (w.alloc ob) fun e w' => ∃ p, e = .returned (.tuple #[.pointer p, .int .i64 (chkW rs).1, .int .i64 (chkW rs).2]) ∧ Below w.heap.size w w') := fun ob => by
    have hg : Grown w (w.alloc ob) := (Grown.refl _).alloc ob
    refine (weighed_any rv rs (w.alloc ob) (hT.grown hg) (h.grown hg)).mono ?_
    rintro e w' ⟨hb, ⟨c, h1, rfl⟩ | ⟨st, sp, h1, rfl, _⟩⟩
    · exact ⟨none, by unfold chkW; rw [h1], hg.below.trans (hb.mono hg.size)⟩
    · exact ⟨_, by unfold chkW; rw [h1], hg.below.trans (hb.mono hg.size)⟩
  generalize (chkW rs).1 = c1 at HC ⊢
  generalize (chkW rs).2 = c2 at HC ⊢
  obtain ⟨ra, rc, rfl, _, _⟩ := h
  go_enter Tryd.func13, Tryd.ntmps13
  go_wp2_with (go_at_call 34; refine (HC.out _).mono ?_; rintro e w' ⟨p, rfl, hb⟩)
  exact bodyPost_ret (v := .tuple #[.int .i64 c1, .int .i64 c2]) (by simp [results, Tryd.f13, go_sem]) rfl ⟨rfl, hb⟩
set_option maxHeartbeats 2000000 in
theorem wweight_any (rv : Value) (rs : List Rl) (u : Int) (w : World) (hT : Tab w) (h : PsR w rv rs) : Calls Tryd.prog 14 #[.agg #[rv], .int .i64 u] w fun e w' => e = .returned (.int .i64 (wgtP rs u)) ∧ Below w.heap.size w w' := by
  have HC : Hid (∀ ob, Calls Tryd.prog 34 #[.agg #[rv]] (w.alloc ob) (WgQ (w.alloc ob) rv rs)) := fun ob => by
    have hg : Grown w (w.alloc ob) := (Grown.refl _).alloc ob
    exact weighed_any rv rs (w.alloc ob) (hT.grown hg) (h.grown hg)
  have HT : Hid (Tab w) := hT
  have HWD : Hid (∀ W, Calls Tryd.prog 35 #[.int .i64 u] W fun e w' => e = .returned (.int .i64 (wd u)) ∧ w' = W) := fun W => width_any u W
  have HBA : Hid (∀ ob (W : World), Below (w.alloc ob).heap.size (w.alloc ob) W → Below w.heap.size w W) := fun ob W hb => by
    have hg : Grown w (w.alloc ob) := (Grown.refl _).alloc ob
    exact hg.below.trans (hb.mono hg.size)
  obtain ⟨ra, rc, hrv, _, _⟩ := h
  obtain ⟨n, hn⟩ : ∃ n, rs.length = n := ⟨_, rfl⟩
  rw [hn] at hrv
  subst hrv
  obtain ⟨R, hR⟩ : ∃ R, wgtP rs u = R := ⟨_, rfl⟩
  have HR : Hid (wgtP rs u = R) := hR
  rw [hR]
  clear hn hT hR
  obtain ⟨d, hd⟩ : ∃ d, wd u = d := ⟨_, rfl⟩
  have HD : Hid (wd u = d) := hd
  rw [hd] at HWD
  clear hd
  go_enter Tryd.func14, Tryd.ntmps14
  go_wp2_with fail
  refine (HC.out _).mono ?_
  rintro e w' ⟨hb, ⟨c, h1, rfl⟩ | ⟨st, sp, h1, rfl, hS⟩⟩
  · as_aux_lemma =>
      have HB : Hid (Below w.heap.size w w') := HBA.out _ _ hb
      have HF : Hid (R = 0) := by
        have := HR.out
        unfold wgtP at this
        rw [h1] at this
        exact this.symm
      have hc := wgh_none h1
      clear hb h1
      obtain ⟨c1, c2⟩ := c
      have hc' : (c2 != 0) = true := by simpa using hc
      go_wp2
      go_ret
      have hrt := HF.out
      exact ⟨by first | rfl | (rw [hrt]; rfl), HB.out⟩
  · have HB : Hid (Below w.heap.size w w') := HBA.out _ _ hb
    have hT' : Tab w' := HT.out.below HB.out HT.out.pos
    have hok := wgh_some h1
    by_cases hd0 : d = 0
    · as_aux_lemma =>
        have HF : Hid (R = 0) := by
          have := HR.out
          unfold wgtP at this
          rw [h1] at this
          simp only at this
          rw [if_pos (by rw [HD.out]; exact hd0)] at this
          exact this.symm
        subst hd0
        clear hb h1 hS hT' hok
        go_wp2_with (go_at_call 35; refine (HWD.out _).mono ?_; rintro e w'' ⟨rfl, rfl⟩)
        go_ret
        have hrt := HF.out
        exact ⟨by first | rfl | (rw [hrt]; rfl), HB.out⟩
    · as_aux_lemma =>
        have HWT : Hid (Calls Tryd.prog 36 #[.pointer (some ⟨sp, 0, none⟩), .int .i64 u] w' fun e w'' => e = .returned (.int .i64 R) ∧ Grown w' w'') := by
          have := HR.out
          unfold wgtP at this
          rw [h1] at this
          simp only at this
          rw [if_neg (by rw [HD.out]; exact hd0)] at this
          rw [← this]
          exact weight_any _ rs st w' _ sp u hT' hS (kok_of hok.2 hok.1)
        have hd' : (d == 0) = false := by simpa using hd0
        clear hb h1 hS hT' hok
        go_wp2_with (first | (go_at_call 35; refine (HWD.out _).mono ?_; rintro e w'' ⟨rfl, rfl⟩) | (go_at_call 36; refine HWT.out.mono ?_; rintro e w'' ⟨rfl, hg⟩))
        go_ret
        exact ⟨by first | rfl | simp, HB.out.trans (hg.below.mono HB.out.size)⟩
end Go.Proofs
