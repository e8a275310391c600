/-
  An atom's ranges grow.
-/
import Derived.RangeFuncNested
import Derived.RangeFuncBound
import Derived.RangeFuncCalls
import Derived.RangeFuncLeaves
import Derived.Shelf.Abstract
import Derived.Shelf.RegionOpen
import Derived.WalkKit
import Derived.WalkSpells
import Derived.WalkLawsBesides
import Derived.OwnWalkIn
import Derived.TacticsInMore
import Derived.LoopNIn
import Derived.LoopIn
import Derived.BigQuiet
import Derived.RegionIn
import Derived.Deep.QuietTactic
import Derived.Deep.RegionWith
import Derived.Lib.OthersKept
import Derived.Maps.AppendAt
import Derived.Lib.SmallJoins
import Derived.Shelf.SlSortCmp.QuietGrown
import Derived.Test.YtjjkomaokgmkhaaDoorLan
namespace Go.Proofs
open Go.RowKit Go.Shelf

set_option maxRecDepth 100000
attribute [local go_sem] Oper.semAt_some
attribute [local go_sem ↓] Go.wp_at_zero Go.wp_at_succ

/-- another row of an atom's ranges -/
theorem TT.sp1 {w W : World} {base B pb pc : Nat} {sv bv wv mv : Value} {n mh : Nat} {st bg : List Int} {sps : List (Value × List (Int × Int))} {wh : List Nat} (h : TT w base B sv bv (.slice (some ⟨pb, 0, none⟩) sps.length pc) wv mv n mh st bg sps wh) {i : Nat} {v : Value} {l : List (Int × Int)} (hi : sps[i]? = some (v, l)) (hf : Fr w W (fun k => v.ownBlock = some k)) {v' : Value} {l' : List (Int × Int)} (hown : OwnR W base v' l') (hl : Loc w v v') :
    W.cell? ⟨pb, i, none⟩ = some v ∧ W.frozen? ⟨pb, i, none⟩ = false ∧ TT (W.setCell ⟨pb, i, none⟩ v') base B sv bv (.slice (some ⟨pb, 0, none⟩) sps.length pc) wv mv n mh st bg (sps.set i (v', l')) wh ∧ Fr w (W.setCell ⟨pb, i, none⟩ v') (fun k => k = pb ∨ v.ownBlock = some k) := by
  have hv := h.r _ (List.mem_of_getElem? hi)
  obtain ⟨pcs', hpo⟩ := own_obj h.p (b := pb) rfl
  have hvp : v.ownBlock ≠ some pb := fun e => own_ne h.p hv (by decide) rfl e
  have p4 := own_fr h.p hf fun b hb e => hvp (by injection hb with hb; rw [show pb = b from hb]; exact e)
  have f5 : Fr w (W.setCell ⟨pb, i, none⟩ v') (fun k => k = pb ∨ v.ownBlock = some k) := (hf.mono fun _ _ e => .inr e).trans (fr_set _ _ _ _) fun _ _ e => .inl e
  obtain ⟨pcs2, hpo2⟩ := own_obj p4 (b := pb) rfl
  have hv'p : v'.ownBlock ≠ some pb := own_not hown hpo2 (by decide)
  have hil := (List.getElem?_eq_some_iff.1 hi).1
  have hcell : W.cell? ⟨pb, i, none⟩ = some v := by
    rcases p4.2 with ⟨e, _⟩ | ⟨g, cap, cur, e, _, hg, hc, _, hs, ht⟩
    · cases e
    · injection e with e1 e2 e3
      injection e1 with e1
      injection e1 with e1 _ _
      subst e1
      refine heap_cellv hg ?_
      have h1 : (sps.map Prod.fst)[i]? = some v := by rw [List.getElem?_map, hi]; rfl
      rw [← ht, List.getElem?_take, if_pos (by omega), Array.getElem?_toList] at h1
      exact h1
  have old : ∀ {e size m : Nat} {u : Value} {xs : List Value}, w.ownsRow base e size u m xs → (∀ b, u.ownBlock = some b → b ≠ pb ∧ v.ownBlock ≠ some b) → (W.setCell ⟨pb, i, none⟩ v').ownsRow base e size u m xs := fun ho hb => own_fr ho f5 fun b hb2 e => e.elim (hb b hb2).1 (hb b hb2).2
  have ne : ∀ {e size m : Nat} {u : Value} {xs : List Value}, w.ownsRow base e size u m xs → e ≠ 27 → e ≠ 29 → ∀ b, u.ownBlock = some b → b ≠ pb ∧ v.ownBlock ≠ some b := fun ho h1 h2 b hb => ⟨fun e => own_not ho hpo (fun e => h1 e.symm) (by rw [← e]; exact hb), fun e => own_ne ho hv h2 hb e⟩
  refine ⟨hcell, p4.frozenAt i, ⟨h.tb, ?_, old h.s (ne h.s (by decide) (by decide)), old h.b (ne h.b (by decide) (by decide)), ?_, fun x hx => ?_, fun a c x y k hx hy hkx hky => ?_, old h.wo (ne h.wo (by decide) (by decide)), h.sb⟩, f5⟩
  · refine (f5.block _ (blk_lt h.blk) fun e => ?_).trans h.blk
    rcases e with e | e
    · rw [← e, h.blk] at hpo; injection hpo with hpo; injection hpo with _ hpo _; cases hpo
    · exact own_not hv h.blk (by decide) e
  · have := (p4.stored i v').1
    rw [List.length_set, List.map_set]
    exact this
  · obtain ⟨a, ha, hxa⟩ := List.getElem_of_mem hx
    rw [List.length_set] at ha
    by_cases e : i = a
    · subst e
      rw [List.getElem_set_self] at hxa
      subst hxa
      exact own_fr hown (fr_set _ _ _ _) fun b hb e => hv'p (by rw [← (show b = pb from e)]; exact hb)
    · rw [List.getElem_set_ne e] at hxa
      have hxm : sps[a]? = some x := by rw [List.getElem?_eq_getElem ha, hxa]
      have hxo := h.r x (List.mem_of_getElem? hxm)
      exact old hxo fun b hb => ⟨fun e => own_not hxo hpo (by decide) (by rw [← e]; exact hb), fun e2 => e (h.nd i a _ _ b hi hxm e2 hb)⟩
  · rw [List.getElem?_set] at hx hy
    have nw : ∀ {c : Nat} {y : Value × List (Int × Int)}, i ≠ c → sps[c]? = some y → v'.ownBlock = some k → y.1.ownBlock = some k → False := fun hc hy h1 h2 => by
      have hlt := (World.ownsRow.lt (h.r _ (List.mem_of_getElem? hy)) k h2).2
      exact hc (h.nd _ _ _ _ k hi hy (loc_old hl h1 hlt) h2)
    by_cases ea : i = a
    · by_cases ec : i = c
      · omega
      · rw [if_pos ea, if_pos (by omega)] at hx
        rw [if_neg ec] at hy
        injection hx with hx
        subst hx
        exact (nw ec hy hkx hky).elim
    · rw [if_neg ea] at hx
      by_cases ec : i = c
      · rw [if_pos ec, if_pos (by omega)] at hy
        injection hy with hy
        subst hy
        exact (nw ea hx hky hkx).elim
      · rw [if_neg ec] at hy
        exact h.nd a c x y k hx hy hkx hky
end Go.Proofs
