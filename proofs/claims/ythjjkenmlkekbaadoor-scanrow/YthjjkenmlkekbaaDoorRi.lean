/-
  A row of things is scanned as their tokens.
-/
import Derived.Shelf.Abstract
import Derived.Shelf.RegionOpen
import Derived.WalkKit
import Derived.WalkSpells
import Derived.WalkLawsBesides
import Derived.BigQuiet
import Derived.Deep.QuietTactic
import Derived.Deep.LoopGhost
import Derived.Lib.OthersKept
import Derived.ScopeJumps
import Derived.WalkMore
import Derived.Maps.AppendAt
import Derived.Lib.SmallJoins
import Derived.Test.YthjjkenmlkekbaaDoorRh
namespace Go.Proofs
open Go.RowKit Go.Shelf

set_option maxRecDepth 100000
attribute [local go_sem] Oper.semAt_some

/-- a thing that is written, and the gap behind it -/
structure Item where
  (s : ByteArray) (k u : Int) (t : ByteArray) (n : Int) (g : ByteArray)
def Item.ok (x : Item) : Prop := Told x.s x.k x.u x.t x.n ∧ x.g ∈ gaps6
def itemL (x : Item) : List UInt8 := x.s.data.toList ++ x.g.data.toList
def textL (l : List Item) : List UInt8 := l.flatMap itemL
def toksL : Nat → List Item → List Tok
  | _, [] => []
  | p, x :: l => ⟨x.k, p, x.s.size, x.u, x.t, x.n⟩ :: toksL (p + x.s.size + x.g.size) l
theorem gap_facts {g : ByteArray} (h : g ∈ gaps6) : (∀ M, pastN false (g.data.toList ++ M) = g.size + pastN false M) ∧ (∃ c T, g.data.toList = c :: T ∧ Gp c) ∧ 0 < g.size ∧ g.size ≤ 11 := by
  simp only [gaps6, List.mem_cons, List.not_mem_nil, or_false] at h
  rcases h with rfl | rfl | rfl | rfl | rfl | rfl
  · exact ⟨fun M => by simp [pastN, isWs, ByteArray.size], ⟨_, _, rfl, .inl (by decide)⟩, by decide, by decide⟩
  · exact ⟨fun M => by simp [pastN, isWs, ByteArray.size], ⟨_, _, rfl, .inl (by decide)⟩, by decide, by decide⟩
  · exact ⟨fun M => by simp [pastN, isWs, ByteArray.size]; omega, ⟨_, _, rfl, .inl (by decide)⟩, by decide, by decide⟩
  · exact ⟨fun M => by simp [pastN, isWs, ByteArray.size]; omega, ⟨_, _, rfl, .inr (by decide)⟩, by decide, by decide⟩
  · exact ⟨fun M => by simp [pastN, isWs, ByteArray.size]; omega, ⟨_, _, rfl, .inl (by decide)⟩, by decide, by decide⟩
  · exact ⟨fun M => by simp [pastN, isWs, ByteArray.size]; omega, ⟨_, _, rfl, .inr (by decide)⟩, by decide, by decide⟩
theorem past_text (l : List Item) (h : ∀ x ∈ l, x.ok) : pastN false (textL l) = 0 := by
  cases l with
  | nil => rfl
  | cons x l =>
    have := (h x (by simp)).1.2.2.1
    simp only [textL, List.flatMap_cons, itemL, List.append_assoc]
    exact this _
theorem run_row (r : ByteArray) (hs : r.size ≤ maxLen) : ∀ (l : List Item) (g : ByteArray) (p : Nat) (fresh : Bool), (∀ x ∈ l, x.ok) → g ∈ gaps6 → r.data.toList.drop p = g.data.toList ++ textL l → p ≤ r.size → Run r p fresh (toksL (p + g.size) l) 0 0 := by
  have hzr : r.data.toList.length = r.size := by simp
  intro l
  induction l with
  | nil =>
    intro g p fresh _ hg hd hp
    obtain ⟨g1, _⟩ := gap_facts hg
    refine Run.fin ?_
    have := congrArg List.length hd
    rw [List.length_drop, hzr] at this
    rw [hd, g1]
    simp only [textL, List.flatMap_nil, List.append_nil, Array.length_toList] at this ⊢
    have e : g.data.size = g.size := rfl
    simp only [pastN]
    omega
  | cons x l ih =>
    intro g p fresh hok hg hd hp
    obtain ⟨g1, _⟩ := gap_facts hg
    obtain ⟨⟨h0, h36, hpx, hT⟩, hgx⟩ := hok x (by simp)
    obtain ⟨g2, ⟨c, T, hcT, hc⟩, _⟩ := gap_facts hgx
    have hokl : ∀ y ∈ l, y.ok := fun y hy => hok y (by simp [hy])
    have eg : g.data.toList.length = g.size := by simp
    have es : x.s.data.toList.length = x.s.size := by simp
    have hlen := congrArg List.length hd
    have htx : textL (x :: l) = x.s.data.toList ++ (x.g.data.toList ++ textL l) := by simp [textL, itemL]
    rw [htx] at hd hlen
    rw [List.length_drop, hzr, List.length_append, List.length_append, eg, es] at hlen
    have hq : r.data.toList.drop (p + g.size) = x.s.data.toList ++ (x.g.data.toList ++ textL l) := by
      rw [← List.drop_drop, hd, ← eg, List.drop_left]
    have hq2 : r.data.toList.drop (p + g.size + x.s.size) = x.g.data.toList ++ textL l := by
      rw [← List.drop_drop, hq, ← es, List.drop_left]
    refine Run.step (q := p + g.size) (l := x.s.size) ?_ (by omega) ?_ h0 (by omega) ?_
    · rw [hd, g1, hpx]; rfl
    · refine hT _ fresh c (T ++ textL l) (by rw [ext_size]; omega) ?_ hc
      rw [ext_drop, hq, hcT]
      rfl
    · exact ih x.g (p + g.size + x.s.size) _ hokl hgx hq2 (by omega)
end Go.Proofs
