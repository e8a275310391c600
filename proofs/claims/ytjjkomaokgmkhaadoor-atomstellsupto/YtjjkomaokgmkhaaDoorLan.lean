/-
  A table in memory.
-/
import Derived.RangeFuncNested
import Derived.RangeFuncBound
import Derived.RangeFuncCalls
import Derived.RangeFuncLeaves
import Derived.Shelf.Abstract
import Derived.Shelf.RegionOpen
import Derived.WalkKit
import Derived.WalkSpells
import Derived.WalkLawsBesides
import Derived.OwnWalkIn
import Derived.TacticsInMore
import Derived.LoopNIn
import Derived.LoopIn
import Derived.BigQuiet
import Derived.RegionIn
import Derived.Deep.QuietTactic
import Derived.Deep.RegionWith
import Derived.Lib.OthersKept
import Derived.Maps.AppendAt
import Derived.Lib.SmallJoins
import Derived.Shelf.SlSortCmp.QuietGrown
import Derived.Test.YtjjkomaokgmkhaaDoorHhn
namespace Go.Proofs
open Go.RowKit Go.Shelf

set_option maxRecDepth 100000
attribute [local go_sem] Oper.semAt_some
attribute [local go_sem ↓] Go.wp_at_zero Go.wp_at_succ

/-- a table in memory -/
structure TT (w : World) (base B : Nat) (sv bv pv wv mv : Value) (n mh : Nat) (st bg : List Int) (sps : List (Value × List (Int × Int))) (wh : List Nat) : Prop where
  tb : base ≤ B
  blk : w.heap[B]? = some (.cells #[.int .i64 (n : Int), sv, bv, pv, wv, mv, .int .i64 (mh : Int)] 53 (0, 0))
  s : OwnI w base sv st
  b : OwnI w base bv bg
  p : w.ownsRow base 27 1 pv sps.length (sps.map Prod.fst)
  r : ∀ x ∈ sps, OwnR w base x.1 x.2
  nd : ∀ (i j : Nat) x y k, sps[i]? = some x → sps[j]? = some y → x.1.ownBlock = some k → y.1.ownBlock = some k → i = j
  wo : w.ownsRow base 70 1 wv wh.length (uwv wh)
  sb : ∀ k, sv.ownBlock = some k → bv.ownBlock ≠ some k
/-- its blocks -/
def TTB (B : Nat) (sv bv pv wv : Value) (sps : List (Value × List (Int × Int))) (k : Nat) : Prop := k = B ∨ sv.ownBlock = some k ∨ bv.ownBlock = some k ∨ pv.ownBlock = some k ∨ wv.ownBlock = some k ∨ ∃ x ∈ sps, x.1.ownBlock = some k
theorem TT.fr {w w' : World} {base B : Nat} {sv bv pv wv mv : Value} {n mh : Nat} {st bg : List Int} {sps : List (Value × List (Int × Int))} {wh : List Nat} (h : TT w base B sv bv pv wv mv n mh st bg sps wh) {D : Nat → Prop} (hf : Fr w w' D) (hB : ∀ k, TTB B sv bv pv wv sps k → ¬ D k) : TT w' base B sv bv pv wv mv n mh st bg sps wh where
  tb := h.tb
  blk := (hf.block _ (blk_lt h.blk) (hB _ (.inl rfl))).trans h.blk
  s := own_fr h.s hf fun b hb => hB b (.inr (.inl hb))
  b := own_fr h.b hf fun b hb => hB b (.inr (.inr (.inl hb)))
  p := own_fr h.p hf fun b hb => hB b (.inr (.inr (.inr (.inl hb))))
  r := fun x hx => own_fr (h.r x hx) hf fun b hb => hB b (.inr (.inr (.inr (.inr (.inr ⟨x, hx, hb⟩)))))
  nd := h.nd
  wo := own_fr h.wo hf fun b hb => hB b (.inr (.inr (.inr (.inr (.inl hb)))))
  sb := h.sb
theorem TT.grown {w w' : World} {base B : Nat} {sv bv pv wv mv : Value} {n mh : Nat} {st bg : List Int} {sps : List (Value × List (Int × Int))} {wh : List Nat} (h : TT w base B sv bv pv wv mv n mh st bg sps wh) (hg : Grown w w') : TT w' base B sv bv pv wv mv n mh st bg sps wh := h.fr (fr_grown hg fun _ => False) fun _ _ e => e
theorem own_not {w : World} {base e size n : Nat} {v : Value} {xs : List Value} (h : w.ownsRow base e size v n xs) {B t : Nat} {cs : Array Value} {m : Nat × Nat} (hb : w.heap[B]? = some (.cells cs t m)) (hne : t ≠ e) : v.ownBlock ≠ some B := fun hv => by
  obtain ⟨cs', ho⟩ := own_obj h hv
  rw [hb] at ho
  injection ho with ho
  injection ho with _ ho _
  exact hne ho
/-- another row of starts -/
theorem TT.st1 {w W : World} {base B : Nat} {sv bv pv wv mv : Value} {n mh : Nat} {st bg : List Int} {sps : List (Value × List (Int × Int))} {wh : List Nat} (h : TT w base B sv bv pv wv mv n mh st bg sps wh) (hf : Fr w W (fun k => sv.ownBlock = some k)) {v' : Value} {st' : List Int} (hown : OwnI W base v' st') (hl : Loc w sv v') :
    W.heap[B]? = some (.cells #[.int .i64 (n : Int), sv, bv, pv, wv, mv, .int .i64 (mh : Int)] 53 (0, 0)) ∧ TT (W.setCell ⟨B, 1, none⟩ v') base B v' bv pv wv mv n mh st' bg sps wh ∧ Fr w (W.setCell ⟨B, 1, none⟩ v') (fun k => k = B ∨ sv.ownBlock = some k) := by
  have e4 : W.heap[B]? = some (.cells #[.int .i64 (n : Int), sv, bv, pv, wv, mv, .int .i64 (mh : Int)] 53 (0, 0)) := (hf.block _ (blk_lt h.blk) (own_not h.s h.blk (by decide))).trans h.blk
  have f5 : Fr w (W.setCell ⟨B, 1, none⟩ v') (fun k => k = B ∨ sv.ownBlock = some k) := (hf.mono fun _ _ e => .inr e).trans (fr_set _ _ _ _) fun _ _ e => .inl e
  have hvB := own_not hown e4 (by decide)
  refine ⟨e4, ⟨h.tb, (set_heap e4).trans rfl, own_fr hown (fr_set _ _ _ _) fun b hb e => hvB (by rw [← (show b = B from e)]; exact hb), ?_, ?_, fun x hx => ?_, h.nd, ?_, fun k hk hb => ?_⟩, f5⟩
  · exact own_fr h.b f5 fun b hb e => e.elim (fun e => own_not h.b h.blk (by decide) (by rw [← e]; exact hb)) fun e => h.sb b e hb
  · exact own_fr h.p f5 fun b hb e => e.elim (fun e => own_not h.p h.blk (by decide) (by rw [← e]; exact hb)) fun e => own_ne h.s h.p (by decide) e hb
  · exact own_fr (h.r x hx) f5 fun b hb e => e.elim (fun e => own_not (h.r x hx) h.blk (by decide) (by rw [← e]; exact hb)) fun e => own_ne h.s (h.r x hx) (by decide) e hb
  · exact own_fr h.wo f5 fun b hb e => e.elim (fun e => own_not h.wo h.blk (by decide) (by rw [← e]; exact hb)) fun e => own_ne h.s h.wo (by decide) e hb
  · have hk2 := (World.ownsRow.lt h.b k hb).2
    exact h.sb k (loc_old hl hk hk2) hb
/-- another row of begins -/
theorem TT.bg1 {w W : World} {base B : Nat} {sv bv pv wv mv : Value} {n mh : Nat} {st bg : List Int} {sps : List (Value × List (Int × Int))} {wh : List Nat} (h : TT w base B sv bv pv wv mv n mh st bg sps wh) (hf : Fr w W (fun k => bv.ownBlock = some k)) {v' : Value} {bg' : List Int} (hown : OwnI W base v' bg') (hl : Loc w bv v') :
    W.heap[B]? = some (.cells #[.int .i64 (n : Int), sv, bv, pv, wv, mv, .int .i64 (mh : Int)] 53 (0, 0)) ∧ TT (W.setCell ⟨B, 2, none⟩ v') base B sv v' pv wv mv n mh st bg' sps wh ∧ Fr w (W.setCell ⟨B, 2, none⟩ v') (fun k => k = B ∨ bv.ownBlock = some k) := by
  have e4 : W.heap[B]? = some (.cells #[.int .i64 (n : Int), sv, bv, pv, wv, mv, .int .i64 (mh : Int)] 53 (0, 0)) := (hf.block _ (blk_lt h.blk) (own_not h.b h.blk (by decide))).trans h.blk
  have f5 : Fr w (W.setCell ⟨B, 2, none⟩ v') (fun k => k = B ∨ bv.ownBlock = some k) := (hf.mono fun _ _ e => .inr e).trans (fr_set _ _ _ _) fun _ _ e => .inl e
  have hvB := own_not hown e4 (by decide)
  refine ⟨e4, ⟨h.tb, (set_heap e4).trans rfl, ?_, own_fr hown (fr_set _ _ _ _) fun b hb e => hvB (by rw [← (show b = B from e)]; exact hb), ?_, fun x hx => ?_, h.nd, ?_, fun k hk hb => ?_⟩, f5⟩
  · exact own_fr h.s f5 fun b hb e => e.elim (fun e => own_not h.s h.blk (by decide) (by rw [← e]; exact hb)) fun e => h.sb b hb e
  · exact own_fr h.p f5 fun b hb e => e.elim (fun e => own_not h.p h.blk (by decide) (by rw [← e]; exact hb)) fun e => own_ne h.b h.p (by decide) e hb
  · exact own_fr (h.r x hx) f5 fun b hb e => e.elim (fun e => own_not (h.r x hx) h.blk (by decide) (by rw [← e]; exact hb)) fun e => own_ne h.b (h.r x hx) (by decide) e hb
  · exact own_fr h.wo f5 fun b hb e => e.elim (fun e => own_not h.wo h.blk (by decide) (by rw [← e]; exact hb)) fun e => own_ne h.b h.wo (by decide) e hb
  · have hk2 := (World.ownsRow.lt h.s k hk).2
    exact h.sb k hk (loc_old hl hb hk2)
end Go.Proofs
