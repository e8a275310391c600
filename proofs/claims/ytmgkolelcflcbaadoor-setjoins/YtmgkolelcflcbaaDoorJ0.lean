/-
  What holds while a statement goes on beside its book.
-/
import Derived.RangeFuncNested
import Derived.RangeFuncBound
import Derived.RangeFuncCalls
import Derived.RangeFuncLeaves
import Derived.Shelf.Abstract
import Derived.Shelf.RegionOpen
import Derived.WalkKit
import Derived.WalkSpells
import Derived.WalkLawsBesides
import Derived.OwnWalkIn
import Derived.TacticsInMore
import Derived.LoopNIn
import Derived.LoopIn
import Derived.BigQuiet
import Derived.RegionIn
import Derived.Deep.QuietTactic
import Derived.Deep.RegionWith
import Derived.Lib.OthersKept
import Derived.Maps.AppendAt
import Derived.Maps.OwnIn
import Derived.Lib.SmallJoins
import Derived.Test.YtmgkolelcflcbaaDoorB8
import Derived.Test.YtmgkolelcflcbaaDoorRy
namespace Go.Proofs
open Go.RowKit Go.Shelf

set_option maxRecDepth 100000
attribute [local go_sem] Oper.semAt_some
attribute [local go_sem ↓] Go.wp_at_zero Go.wp_at_succ
/-- the book with so many lists, and rows that lie beside it -/
def SJ (w0 : World) (base hb : Nat) (xs : List (Value × List (Int × Int))) (k : Nat) (W : World) : Prop :=
  ∃ ov wv es, Bok W base hb ov wv es 0 0 es.length ∧ es.length = k ∧ (∀ e ∈ es, e.l.length ≤ 512) ∧ (∀ x ∈ xs, OwnS W base x.1 x.2 ∧ ∀ b, x.1.ownBlock = some b → b ∉ blksO es) ∧ Below w0.heap.size w0 W ∧ w0.heap.size ≤ base
theorem SJ.below {w0 W W' : World} {base hb k : Nat} {xs : List (Value × List (Int × Int))} (h : SJ w0 base hb xs k W) (hb' : Below W.heap.size W W') : SJ w0 base hb xs k W' := by
  obtain ⟨ov, wv, es, h1, h2, h3, h4, h5, h6⟩ := h
  exact ⟨ov, wv, es, h1.below hb' (Nat.le_refl _), h2, h3, fun x hx => ⟨(h4 x hx).1.below hb' (Nat.le_refl _), (h4 x hx).2⟩, h5.trans (hb'.mono (Nat.le_trans h5.size (Nat.le_refl _))), h6⟩
theorem SJ.bel {w0 W : World} {base hb k : Nat} {xs : List (Value × List (Int × Int))} (h : SJ w0 base hb xs k W) : Below w0.heap.size w0 W := by
  obtain ⟨ov, wv, es, h1, h2, h3, h4, h5, h6⟩ := h
  exact h5
theorem SJ.own {w0 W : World} {base hb k : Nat} {xs : List (Value × List (Int × Int))} (h : SJ w0 base hb xs k W) {x : Value × List (Int × Int)} (hx : x ∈ xs) : OwnS W base x.1 x.2 := by
  obtain ⟨ov, wv, es, h1, h2, h3, h4, h5, h6⟩ := h
  exact (h4 x hx).1
theorem SJ.start {w0 W : World} (hb : Below w0.heap.size w0 W) : SJ w0 W.heap.size W.heap.size [] 0 (W.alloc (.cells #[.slice none 0 0, .slice none 0 0, .int .i64 0] 27)) :=
  ⟨.slice none 0 0, .slice none 0 0, [], ⟨blk_new rfl, Nat.le_refl _, World.ownsRow_nil _ _ _ _, World.ownsRow_nil _ _ _ _, fun e he => by simp at he, fun e he => by simp at he, fun i j e e' b hi => by simp at hi, fun i j e e' b _ hi => by simp at hi, .inl rfl, by simp, fun e he => by simp at he, Nat.le_refl _⟩, rfl, fun e he => by simp at he, fun x hx => by simp at hx, hb.alloc hb.size _, hb.size⟩
/-- one row more beside the book -/
theorem SJ.more {w0 W W' : World} {base hb k : Nat} {xs : List (Value × List (Int × Int))} {v : Value} {l : List (Int × Int)} (h : SJ w0 base hb xs k W) (hb' : Below W.heap.size W W') (hv : OwnS W' W.heap.size v l) : SJ w0 base hb ((v, l) :: xs) k W' := by
  obtain ⟨ov, wv, es, h1, h2, h3, h4, h5, h6⟩ := h
  refine ⟨ov, wv, es, h1.below hb' (Nat.le_refl _), h2, h3, fun x hx => ?_, h5.trans (hb'.mono h5.size), h6⟩
  rcases List.mem_cons.1 hx with rfl | hx
  · exact ⟨hv.le h1.bz, fun b hb2 => blks_size h1 (hv.typ hb2).1⟩
  · exact ⟨(h4 x hx).1.below hb' (Nat.le_refl _), (h4 x hx).2⟩
theorem SJ.keep {w0 W0 W : World} {base hb k : Nat} {xs : List (Value × List (Int × Int))} {v tv : Value} {l : List (Int × Int)} (h : SJ w0 base hb xs k W0) (hb1 : Below W0.heap.size W0 W) (hv : OwnS W W0.heap.size v l) (ht : OwnS W W0.heap.size tv l) (hn : l.length ≤ 512) (hk : k ≤ 99) :
    Calls Tryd.prog 12 #[.pointer (some ⟨hb, 0, none⟩), v, tv] W fun e w' => e = .returned (.bool true) ∧ SJ w0 base hb xs (k + 1) w' := by
  obtain ⟨ov, wv, es, h1, h2, h3, h4, h5, h6⟩ := h
  have hz := h1.bz
  have hB := h1.below hb1 (Nat.le_refl _)
  have hb5 : Below w0.heap.size w0 W := h5.trans (hb1.mono h5.size)
  refine (keep_any base hb ov wv es 0 0 v tv l W hB (hv.le hz) (ht.le hz) (fun b hb' hm => ?_) (by omega) (by omega)).mono ?_
  · obtain ⟨_, h8⟩ := blks_lt h1 hm
    have h9 := (Array.getElem?_eq_some_iff.1 h8).1
    have := (hv.typ hb').1
    omega
  · rintro e w' ⟨rfl, ov', wv', mv, k1, k2, k3, k4⟩
    refine ⟨rfl, ov', wv', _, by rw [show (es ++ [(⟨v, mv, l⟩ : BE)]).length = es.length + 1 by simp]; exact k1, by simp [h2], fun e he => ?_, fun x hx => ⟨k2.own hB ((h4 x hx).1.below hb1 (Nat.le_refl _)), fun b hb' hm => ?_⟩, hb5.trans (k3.mono h6), h6⟩
    rotate_left
    · obtain ⟨e, he, h8⟩ := blks_mem.1 hm
      rcases List.mem_append.1 he with he | he
      · exact (h4 x hx).2 b hb' (blks_mem.2 ⟨e, he, h8⟩)
      · obtain rfl := List.mem_singleton.1 he
        have h9 := (h4 x hx).1.lt hb'
        rcases h8 with h8 | h8
        · have := (hv.typ h8).1
          omega
        · have := k4 b h8
          have := hb1.size
          omega
    rcases List.mem_append.1 he with he | he
    · exact h3 e he
    · obtain rfl := List.mem_singleton.1 he
      exact hn
theorem SJ.spoil {w0 W : World} {base hb k : Nat} {xs : List (Value × List (Int × Int))} (h : SJ w0 base hb xs k W) (hk : k ≤ 40) :
    Calls Tryd.prog 22 #[.pointer (some ⟨hb, 0, none⟩)] W fun e w' => e = .returned (.bool true) ∧ Below w0.heap.size w0 w' := by
  obtain ⟨ov, wv, es, h1, h2, h3, h4, h5, h6⟩ := h
  refine (spoil_any base hb ov wv es 0 512 W h1 (by omega) (by omega) h3).mono ?_
  rintro e w' ⟨rfl, hb⟩
  exact ⟨rfl, h5.trans (hb.mono h6)⟩
/-- a row that was lent, without its mark -/
theorem SJ.lent {w0 W : World} {base hb k : Nat} {xs : List (Value × List (Int × Int))} {g n c : Nat} {l : List (Int × Int)} (h : SJ w0 base hb xs k W) (hx : (.slice (some ⟨g, 0, none⟩) (n + 1) c, l ++ [(-77, -77)]) ∈ xs) (hl : l.length = n) : Rs W (.slice (some ⟨g, 0, none⟩) n (n + 1)) l := by
  have h1 := (h.own hx).reads
  have := lent_rs h1 (n + 1) (by omega)
  rw [hl] at this
  exact this
end Go.Proofs
