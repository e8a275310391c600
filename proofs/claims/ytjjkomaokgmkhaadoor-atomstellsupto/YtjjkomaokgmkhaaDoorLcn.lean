/-
  An atom begins.
-/
import Derived.RangeFuncNested
import Derived.RangeFuncBound
import Derived.RangeFuncCalls
import Derived.RangeFuncLeaves
import Derived.Shelf.Abstract
import Derived.Shelf.RegionOpen
import Derived.WalkKit
import Derived.WalkSpells
import Derived.WalkLawsBesides
import Derived.OwnWalkIn
import Derived.TacticsInMore
import Derived.LoopNIn
import Derived.LoopIn
import Derived.BigQuiet
import Derived.RegionIn
import Derived.Deep.QuietTactic
import Derived.Deep.RegionWith
import Derived.Lib.OthersKept
import Derived.Maps.AppendAt
import Derived.Lib.SmallJoins
import Derived.Shelf.SlSortCmp.QuietGrown
import Derived.Test.YtjjkomaokgmkhaaDoorLbn
import Derived.Test.YtjjkomaokgmkhaaDoorAbn
namespace Go.Proofs
open Go.RowKit Go.Shelf

set_option maxRecDepth 100000
attribute [local go_sem] Oper.semAt_some
attribute [local go_sem ↓] Go.wp_at_zero Go.wp_at_succ

theorem push_I2 {ops : Array Oper} {rest : List Oper} {o : Oper} {a : Act} {Q : Exit → Act → World → Prop} {w : World} (hgd : o.guard = none) (s x : Operand) (t : TypeId)
    (ho : o.op = .call { callee := .builtin .append, args := #[s, x], argTypes := #[t, t] }) (ht : Tryd.prog.underlying t = some (.slice 3))
    (base : Nat) (v : Value) (l : List Int) (hs : a.eval s = v) (hown : OwnI w base v l) (g c : Nat) (p : Int) (hx : a.eval x = .slice (some ⟨g, 0, none⟩) 1 c)
    (hc : w.heap[g]? = some (.cells #[.int .i64 p] 3 (0, 0))) (hl : l.length + 1 ≤ 8796093022208) (hbase : base ≤ w.heap.size)
    (h : ∀ v' w', OwnI w' base v' (l ++ [p]) → w.grownBy w' v.ownBlock → Loc w v v' → wpList Tryd.prog ops Q rest (a.put o.dst v') w') : wpList Tryd.prog ops Q (o :: rest) a w := by
  obtain ⟨i0, hi, hz0, hz1, hz2⟩ := info_parts iinfo3
  refine wpList_append_own_at w hgd s x t ho base 3 i0 (.int .i64 0) 1 8 ht hi hz0 hz1 hz2 rfl (by decide) v l.length (ints l) hs hown ⟨g, 0, none⟩ 1 c (ints [p]) hx rfl ?_ (fun u hu => by simp [ints] at hu; rw [hu]; rfl) (by unfold maxLen; omega) (by omega) hbase (fun v' w' h2 h3 _ h5 => h v' w' ?_ h3 ?_)
  · intro j u hj
    rw [add_zero_at]
    match j, hj with
    | 0, hj => simp [ints] at hj; subst hj; exact heap_cellv hc rfl
  · exact own_ints h2 rfl
  · rcases h5 with h5 | h5
    · exact .inl h5
    · exact .inr ⟨_, h5, Nat.le_refl _⟩
/-- behind a beginning -/
def BQ (w : World) (base B : Nat) (sv bv pv wv mv : Value) (n mh : Nat) (st bg : List Int) (sps : List (Value × List (Int × Int))) (wh : List Nat) (at' atom : Int) (w' : World) : Prop :=
  ∃ sv' bv' sps', TT w' base B sv' bv' pv wv mv n mh (st ++ [at']) (bg ++ [atom]) sps' wh ∧ sps'.map Prod.snd = endA st bg at' (sps.map Prod.snd) ∧ Fr w w' (TTB B sv bv pv wv sps) ∧ ∀ k, TTB B sv' bv' pv wv sps' k → TTB B sv bv pv wv sps k ∨ w.heap.size ≤ k
theorem BQ.of {w w1 W1 W2 W3 W4 : World} {base B : Nat} {sv bv pv wv mv : Value} {n mh : Nat} {st bg : List Int} {sps : List (Value × List (Int × Int))} {wh : List Nat} {sps' : List (Value × List (Int × Int))} (h : TT w1 base B sv bv pv wv mv n mh st bg sps' wh) (hf : Fr w w1 (TTB B sv bv pv wv sps)) (hsp : ∀ k, (∃ x ∈ sps', x.1.ownBlock = some k) → TTB B sv bv pv wv sps k ∨ w.heap.size ≤ k) {at' atom : Int} (he : sps'.map Prod.snd = endA st bg at' (sps.map Prod.snd))
    (g1 : Grown w1 W1) {v1 : Value} (a1 : OwnI W2 base v1 (st ++ [at'])) (b1 : W1.grownBy W2 sv.ownBlock) (l1 : Loc W1 sv v1) (g2 : Grown (W2.setCell ⟨B, 1, none⟩ v1) W3) {v2 : Value} (a2 : OwnI W4 base v2 (bg ++ [atom])) (b2 : W3.grownBy W4 bv.ownBlock) (l2 : Loc W3 bv v2) :
    BQ w base B sv bv pv wv mv n mh st bg sps wh at' atom (W4.setCell ⟨B, 2, none⟩ v2) := by
  obtain ⟨_, t1, f1⟩ := (h.grown g1).st1 (fr_by b1) a1 l1
  obtain ⟨_, t2, f2⟩ := (t1.grown g2).bg1 (fr_by b2) a2 l2
  have s1 := hf.size
  have s2 := g1.size
  have s3 := f1.size
  have s4 := g2.size
  refine ⟨v1, v2, sps', t2, he, ((((hf.trans (fr_grown g1 (fun _ => False)) fun _ _ e => e.elim).trans f1 fun k _ e => ?_).trans (fr_grown g2 (fun _ => False)) fun _ _ e => e.elim).trans f2 fun k _ e => ?_), fun k hk => ?_⟩
  · rcases e with e | e
    · exact .inl e
    · exact .inr (.inl e)
  · rcases e with e | e
    · exact .inl e
    · exact .inr (.inr (.inl e))
  · rcases hk with hk | hk | hk | hk | hk | hk
    · exact .inl (.inl hk)
    · rcases l1 with l1 | ⟨j, l1, hj⟩
      · exact .inl (.inr (.inl (l1 ▸ hk)))
      · rw [hk] at l1; injection l1 with l1; exact .inr (by omega)
    · rcases l2 with l2 | ⟨j, l2, hj⟩
      · exact .inl (.inr (.inr (.inl (l2 ▸ hk))))
      · rw [hk] at l2; injection l2 with l2; exact .inr (by omega)
    · exact .inl (.inr (.inr (.inr (.inl hk))))
    · exact .inl (.inr (.inr (.inr (.inr (.inl hk)))))
    · exact hsp k hk
end Go.Proofs
