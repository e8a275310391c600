/-
  Weights, asked once.
-/
import Derived.RangeFuncNested
import Derived.RangeFuncBound
import Derived.RangeFuncCalls
import Derived.RangeFuncLeaves
import Derived.Shelf.Abstract
import Derived.Shelf.RegionOpen
import Derived.WalkKit
import Derived.WalkSpells
import Derived.WalkLawsBesides
import Derived.OwnWalkIn
import Derived.TacticsInMore
import Derived.LoopNIn
import Derived.LoopIn
import Derived.BigQuiet
import Derived.RegionIn
import Derived.Deep.QuietTactic
import Derived.Deep.RegionWith
import Derived.Lib.OthersKept
import Derived.Maps.AppendAt
import Derived.Lib.SmallJoins
import Derived.Shelf.SlSortCmp.QuietGrown
import Derived.Maps.Views
import Derived.Maps.OwnSet
import Derived.Maps.Own
import Derived.Test.YtkijbaofhodplaaDoorEu
import Derived.Test.YtkijbaofhodplaaDoorEp
import Derived.Test.YtkijbaofhodplaaDoorHf
import Derived.Test.YtkijbaofhodplaaDoorIg
import Derived.Test.YtkijbaofhodplaaDoorEt
import Derived.Test.YtkijbaofhodplaaDoorFz
namespace Go.Proofs
open Go.RowKit Go.Shelf

set_option maxRecDepth 100000
attribute [local go_sem] Oper.semAt_some
attribute [local go_sem ↓] Go.wp_at_zero Go.wp_at_succ

/-- weights that were asked, in a map -/
def WM (rs : List Rl) (W : World) (m N : Nat) : Prop := ∃ f, IMap W m N f ∧ ∀ k v, f k = some v → v = .int .i64 (wgtP rs k)
theorem WM.kept {rs : List Rl} {W W' : World} {m N : Nat} (h : WM rs W m N) (hm : ∀ o, W.heap[m]? = some o → W'.heap[m]? = some o) : WM rs W' m N := by
  obtain ⟨f, h1, h2⟩ := h
  exact ⟨f, h1.kept hm, h2⟩
set_option maxHeartbeats 8000000 in
theorem lweight_any (rv : Value) (rs : List Rl) (u : Int) (w : World) (m N : Nat) (hT : Tab w) (h : PsR w rv rs) (hM : WM rs w m N) (hN : N < 1000000000000000000) (hu : InI u) :
    Calls Tryd.prog 18 #[.agg #[rv], .map (some m), .int .i64 u] w fun e w' => e = .returned (.int .i64 (wgtP rs u)) ∧ WM rs w' m (N + 1) ∧ w.grownBy w' (some m) := by
  obtain ⟨f, hI, hF⟩ := hM
  obtain ⟨wA, hwA⟩ : ∃ wA, wA = w.alloc (.cells #[rv] 24) := ⟨_, rfl⟩
  have hgA : Grown w wA := by rw [hwA]; exact (Grown.refl _).alloc _
  have HIA : Hid (IMap wA m N f) := hI.kept (fun o ho => (hgA.below.block _ (blk_lt ho)).trans ho)
  have hlk := HIA.out.look_ok (t := 42) (e := 3) Tryd.underlying42 (zero3 wA) hu
  have cA : wA.cell? ⟨w.heap.size, 0, none⟩ = some rv := by rw [hwA]; simp
  have HW : Hid (Calls Tryd.prog 14 #[.agg #[rv], .int .i64 u] wA fun e w' => e = .returned (.int .i64 (wgtP rs u)) ∧ Below wA.heap.size wA w') := wweight_any rv rs u wA (hT.grown hgA) (h.grown hgA)
  have HF : Hid (∀ k v, f k = some v → v = .int .i64 (wgtP rs k)) := hF
  have HGA : Hid (Grown w wA) := hgA
  have HMM : Hid (m < w.heap.size) := by obtain ⟨es, c, hm⟩ := hI.isMap; exact blk_lt hm
  have HST : Hid (∀ w2 wg, Below wA.heap.size wA w2 → wg = .int .i64 (wgtP rs u) → ∃ W9, (Instr.mapUpdate 42 (.map (some m)) (.int .i64 u) wg).run Tryd.prog w2 = .ok () W9 ∧ WM rs W9 m (N + 1) ∧ w.grownBy W9 (some m)) := fun w2 wg hb hwg => by
    have hI2 : IMap w2 m N f := HIA.out.kept (fun o ho => (hb.block _ (blk_lt ho)).trans ho)
    obtain ⟨W9, hrun, hI9, ht9⟩ := hI2.store hN Tryd.underlying42 hu wg
    have hb9 := turned_below ht9 (Nat.le_refl m)
    have hbw : Below w.heap.size w w2 := HGA.out.below.trans (hb.mono HGA.out.size)
    refine ⟨W9, hrun, ⟨updM f u wg, hI9, fun k v e => ?_⟩, ⟨hb9.os.trans hbw.os, hb9.tape.trans hbw.tape, hb9.output.trans hbw.output, by rw [turned_size ht9]; exact hbw.size, fun k hk hne => (turned_other ht9 (fun e => hne (by rw [e]))).trans (hbw.block k hk)⟩⟩
    unfold updM at e
    by_cases ek : k = u
    · rw [if_pos ek] at e; cases e; rw [ek]; exact hwg
    · rw [if_neg ek] at e; exact HF.out k v e
  obtain ⟨ra, rc, hrv, hx1, hx2⟩ := h
  subst hrv
  clear hx1 hx2
  generalize rs.length = n at *
  obtain ⟨R, hR⟩ : ∃ R, wgtP rs u = R := ⟨_, rfl⟩
  rw [hR] at HW HST ⊢
  clear hI hF hgA hT hN
  cases hf : f u with
  | some x =>
    have hx := HF.out u x hf
    rw [hR] at hx
    rw [hf, hx] at hlk
    simp only [Option.getD_some, Option.isSome_some] at hlk
    have HQ : Hid (WM rs wA m (N + 1) ∧ w.grownBy wA (some m)) := ⟨⟨f, HIA.out.mono (Nat.le_succ _), HF.out⟩, ⟨HGA.out.below.os, HGA.out.below.tape, HGA.out.below.output, HGA.out.size, fun k hk _ => HGA.out.below.block k hk⟩⟩
    clear hf hx hR HST HW HF
    subst hwA
    go_enter Tryd.func18, Tryd.ntmps18
    go_wp2
    go_ret
    exact ⟨rfl, HQ.out⟩
  | none =>
    rw [hf] at hlk
    simp only [Option.getD_none, Option.isSome_none] at hlk
    clear hf HF
    subst hwA
    go_enter Tryd.func18, Tryd.ntmps18
    go_wp2_with fail
    refine HW.out.mono ?_
    rintro e w2 ⟨rfl, hB2⟩
    obtain ⟨W9, hrun, hm, hg⟩ := HST.out w2 (.int .i64 R) hB2 rfl
    have HQ := Hid.mk' (And.intro hm hg)
    clear hm hg hB2 hlk
    go_wp2
    go_ret
    exact ⟨rfl, HQ.out⟩
end Go.Proofs
namespace Go.Proofs
open Go.RowKit Go.Shelf

set_option maxRecDepth 100000
attribute [local go_sem] Oper.semAt_some
attribute [local go_sem ↓] Go.wp_at_zero Go.wp_at_succ

theorem wgh_zero {rs : List Rl} (h : (chkW rs).2 = 0) : ∃ st, wgh rs = (some st, 0, 0) := by
  obtain ⟨o, c, ho⟩ : ∃ o c, wgh rs = (o, c) := ⟨_, _, rfl⟩
  unfold chkW at h
  rw [ho] at h
  cases o with
  | none => exact absurd h (wgh_none ho)
  | some st =>
    refine ⟨st, ?_⟩
    rw [ho]
    unfold wgh at ho
    split at ho
    · injection ho with h1; cases h1
    · split at ho
      · injection ho with h1; cases h1
      · split at ho
        · injection ho with h1; cases h1
        · injection ho with _ h2; rw [← h2]
theorem WM.cell {rs : List Rl} {W W' : World} {m N : Nat} (h : WM rs W m N) (hg : W.grownBy W' (some m)) {a : Addr} {v : Value} (hc : W.cell? a = some v) : W'.cell? a = some v := by
  refine hg.cell hc fun e => ?_
  injection e with e
  obtain ⟨f, hI, _⟩ := h
  obtain ⟨es, c, hm⟩ := hI.isMap
  rw [World.cell?, e, hm] at hc
  simp at hc
theorem WM.lt {rs : List Rl} {W : World} {m N : Nat} (h : WM rs W m N) : m < W.heap.size := by
  obtain ⟨f, hI, _⟩ := h
  obtain ⟨es, c, hm⟩ := hI.isMap
  exact blk_lt hm
theorem ir_cells {w w' : World} {v : Value} {l : List Int} (h : IR w v l) (hk : ∀ (a : Addr) (x : Value), w.cell? a = some x → w'.cell? a = some x) : IR w' v l := by
  obtain ⟨a, c, rfl, hc, hr⟩ := h
  refine ⟨a, c, rfl, hc, ?_⟩
  rcases hr with hr | ⟨g, o, h1, h2⟩
  · exact .inl hr
  · exact .inr ⟨g, o, h1, fun j hj => hk _ _ (h2 j hj)⟩
theorem wgtP_unit {rs : List Rl} {st : St} {c : Int × Int} (hw : wgh rs = (some st, c)) {u : Int} (hu : wd u ≠ 0) : wgtP rs u = wK rs st u := by
  rw [wgtP_eq hw, if_neg hu]
  rfl
/-- what units weigh, as told -/
def pS (rs : List Rl) : List Int → Int
  | [] => 0
  | u :: l => wgtP rs u + pS rs l
theorem pS_eq {rs : List Rl} {st : St} {c : Int × Int} (hw : wgh rs = (some st, c)) : ∀ {l : List Int}, AllU l → pS rs l = wS rs st l
  | [], _ => rfl
  | u :: l, h => by
    rw [pS, wS, wgtP_unit hw (h u (by simp)), pS_eq hw fun x hx => h x (by simp [hx])]
theorem pS_succ (rs : List Rl) {l : List Int} {k : Nat} (hk : k < l.length) : pS rs (l.take (k + 1)) = pS rs (l.take k) + wgtP rs l[k] := by
  have : ∀ (a b : List Int), pS rs (a ++ b) = pS rs a + pS rs b := by
    intro a b
    induction a with
    | nil => simp [pS]
    | cons x a ih => simp only [List.cons_append, pS, ih]; omega
  rw [List.take_add_one, List.getElem?_eq_getElem hk, this]
  simp [pS]
theorem unit_at {s : ByteArray} {p : Nat} (_hp : p < s.size) : wd (uAt s p : Int) ≠ 0 := by
  rw [wd_uAt]
  have := uw_pos s p
  omega
theorem units_all (s : ByteArray) : AllU (intsU (units s)) := by
  have : ∀ k p, ∀ x ∈ unitsN s k p, wd (x.2 : Int) ≠ 0 := by
    intro k
    induction k with
    | zero => intro p x hx; simp [unitsN] at hx
    | succ k ih =>
      intro p x hx
      by_cases hp : p < s.size
      · rw [unitsN_step s k p hp] at hx
        rcases List.mem_cons.1 hx with rfl | hx
        · exact unit_at hp
        · exact ih _ x hx
      · rw [unitsN_end s _ p hp] at hx; simp at hx
  intro u hu
  obtain ⟨x, hx, rfl⟩ := List.mem_map.1 hu
  exact this _ _ x hx
theorem sumW_wS (rs : List Rl) (st : St) : ∀ l : List (Nat × Nat), sumW rs st.ws l = wS rs st (intsU l)
  | [] => rfl
  | x :: l => by
    rw [sumW, sumW_wS rs st l]
    rfl
theorem allU_bound {l : List Int} (h : AllU l) {u : Int} (hu : u ∈ l) : InI u := by
  have := h u hu
  unfold wd at this
  split at this
  · exact ⟨by omega, by omega⟩
  · split at this
    · exact ⟨by omega, by omega⟩
    · exact absurd rfl this
end Go.Proofs
