/-
  names: the lines of the document's example in memory.
-/
import Derived.Shelf.Abstract
import Derived.Shelf.RegionOpen
import Derived.WalkKit
import Derived.WalkSpells
import Derived.WalkLawsBesides
import Derived.OwnWalk
import Derived.BigQuiet
import Derived.Deep.QuietTactic
import Derived.Deep.LoopGhost
import Derived.Deep.RegionWith
import Derived.Deep.AppendLies
import Derived.Deep.DeepCutAuto
import Derived.Laws.EntriesVeiled
import Derived.Lib.OthersKept
import Derived.Maps.AppendAt
import Derived.Maps.OwnSet
import Derived.StringKeys
import Derived.WalkMore
import Derived.Lib.SmallJoins
import Derived.Test.YtbacejefgpaabaaDoorGx
import Derived.Test.YtbacejefgpaabaaDoorNl
namespace Go.Proofs
open Go.RowKit Go.Shelf

set_option maxRecDepth 100000
attribute [local go_sem] Oper.semAt_some

theorem unit_any (u : Int) (w : World) : Calls Tryd.prog 20 #[.int .i64 u] w fun e w' => e = .returned (itv 1 u ⟨#[]⟩ (.slice none 0 0) 0 0 false 0) ∧ Below w.heap.size w w' := by
  have HB : Hid (∀ o, Below w.heap.size w (w.alloc o)) := fun o => (Below.refl _ _).alloc (Nat.le_refl _) _
  go_enter Tryd.func20, Tryd.ntmps20
  go_wp2
  exact bodyPost_ret (v := itv 1 u ⟨#[]⟩ (.slice none 0 0) 0 0 false 0) (by simp [results, Tryd.f20, go_sem]) rfl ⟨rfl, HB.out _⟩
abbrev itU (u : Int) : Value := itv 1 u ⟨#[]⟩ (.slice none 0 0) 0 0 false 0
/-- an item's cells -/
abbrev itc (k u : Int) (nm : ByteArray) (ps : Value) (lo hi : Int) (nt : Bool) (ky : Int) : List Value := [.int .i64 k, .int .i64 u, .string nm, ps, .int .i64 lo, .int .i64 hi, .bool nt, .int .i64 ky]
abbrev lnc (k a : Int) (nm : ByteArray) (bg en : Bool) (av kv pv rv : Value) (cu : Int) : List Value := [.int .i64 k, .int .i64 a, .string nm, .bool bg, .bool en, av, kv, pv, rv, .int .i64 cu]
/-- a slice of items that is a whole block -/
def SlB (w : World) (s : Value) (n : Nat) (cs : List Value) (t : TypeId) : Prop := ∃ g, s = .slice (some ⟨g, 0, none⟩) n n ∧ w.heap[g]? = some (.cells cs.toArray t (0, 0))
theorem SlB.ext {w w' : World} {s : Value} {n : Nat} {cs : List Value} {t : TypeId} (h : SlB w s n cs t) (k : Ext w w') : SlB w' s n cs t := by
  obtain ⟨g, e, hb⟩ := h
  exact ⟨g, e, (k.block g (Array.getElem?_eq_some_iff.1 hb).1).trans hb⟩
abbrev nl : Value := .slice none 0 0
def P16 (w : World) (s : Value) : Prop := SlB w s 2 (itc 1 97 ⟨#[]⟩ nl 0 0 false 0 ++ itc 1 101 ⟨#[]⟩ nl 0 0 false 0) 24
def P18 (w : World) (s : Value) : Prop := ∃ s1, SlB w s 1 (itc 5 0 ⟨#[]⟩ s1 0 0 false 0) 24 ∧ P16 w s1
def PU (u : Int) (w : World) (s : Value) : Prop := SlB w s 1 (itc 1 u ⟨#[]⟩ nl 0 0 false 0) 24
def P27 (w : World) (s : Value) : Prop := SlB w s 1 (itc 2 0 ⟨#[118]⟩ nl 0 0 false 0) 24
def P29 (w : World) (s : Value) : Prop := SlB w s 1 (itc 6 0 ⟨#[]⟩ nl 65 66 false 0) 24
def P31 (w : World) (s : Value) : Prop := ∃ s1, SlB w s 1 (itc 5 0 ⟨#[]⟩ s1 0 0 false 0) 24 ∧ P29 w s1
def P33 (w : World) (s : Value) : Prop := ∃ s1, SlB w s 1 (itc 8 0 ⟨#[]⟩ s1 0 0 false 1) 24 ∧ P31 w s1
def P35 (w : World) (s : Value) : Prop := ∃ a b c d e, SlB w s 4 (lnc 1 0 ⟨#[118]⟩ false false nl a nl nl 0 ++ lnc 2 0 ⟨#[]⟩ false false nl b nl c 1 ++ lnc 3 0 ⟨#[]⟩ false false nl nl nl nl 0 ++ lnc 2 0 ⟨#[]⟩ false false nl d nl e 1) 53 ∧ P18 w a ∧ PU 120 w b ∧ PU 121 w c ∧ P27 w d ∧ P33 w e
theorem P18.ext {w w' : World} {s : Value} (h : P18 w s) (k : Ext w w') : P18 w' s := by
  obtain ⟨s1, h1, h2⟩ := h
  exact ⟨s1, h1.ext k, SlB.ext h2 k⟩
theorem P31.ext {w w' : World} {s : Value} (h : P31 w s) (k : Ext w w') : P31 w' s := by
  obtain ⟨s1, h1, h2⟩ := h
  exact ⟨s1, h1.ext k, SlB.ext h2 k⟩
theorem P33.ext {w w' : World} {s : Value} (h : P33 w s) (k : Ext w w') : P33 w' s := by
  obtain ⟨s1, h1, h2⟩ := h
  exact ⟨s1, h1.ext k, h2.ext k⟩
theorem P35.ext {w w' : World} {s : Value} (h : P35 w s) (k : Ext w w') : P35 w' s := by
  obtain ⟨a, b, c, d, e, h1, h2, h3, h4, h5, h6⟩ := h
  exact ⟨a, b, c, d, e, h1.ext k, h2.ext k, SlB.ext h3 k, SlB.ext h4 k, SlB.ext h5 k, h6.ext k⟩
/-- what each operation of the literal leaves -/
def shI (i : Nat) (v : Value) (w : World) : Prop := match i with
  | 0 => v = itU 97
  | 1 => v = itU 101
  | 2 => P16 w v
  | 3 => ∃ s, v = itv 5 0 ⟨#[]⟩ s 0 0 false 0 ∧ P16 w s
  | 4 => P18 w v
  | 5 => ∃ s, v = lnv 1 0 ⟨#[118]⟩ false false nl s nl nl 0 ∧ P18 w s
  | 6 => v = itU 120
  | 7 => PU 120 w v
  | 8 => v = itU 121
  | 9 => PU 121 w v
  | 10 => ∃ s t, v = lnv 2 0 ⟨#[]⟩ false false nl s nl t 1 ∧ PU 120 w s ∧ PU 121 w t
  | 11 => v = lnv 3 0 ⟨#[]⟩ false false nl nl nl nl 0
  | 12 => v = itv 2 0 ⟨#[118]⟩ nl 0 0 false 0
  | 13 => P27 w v
  | 14 => v = itv 6 0 ⟨#[]⟩ nl 65 66 false 0
  | 15 => P29 w v
  | 16 => ∃ s, v = itv 5 0 ⟨#[]⟩ s 0 0 false 0 ∧ P29 w s
  | 17 => P31 w v
  | 18 => ∃ s, v = itv 8 0 ⟨#[]⟩ s 0 0 false 1 ∧ P31 w s
  | 19 => P33 w v
  | 20 => ∃ s t, v = lnv 2 0 ⟨#[]⟩ false false nl s nl t 1 ∧ P27 w s ∧ P33 w t
  | 21 => P35 w v
  | 22 => P35 w v
  | _ => True
theorem shI_ext (i : Nat) (v : Value) (w w' : World) (h : shI i v w) (k : Ext w w') : shI i v w' := by
  match i, h with
  | 0, h | 1, h | 6, h | 8, h | 11, h | 12, h | 14, h => exact h
  | 2, h | 7, h | 9, h | 13, h | 15, h => exact SlB.ext h k
  | 3, ⟨s, e, h⟩ => exact ⟨s, e, SlB.ext h k⟩
  | 4, h => exact P18.ext h k
  | 5, ⟨s, e, h⟩ => exact ⟨s, e, P18.ext h k⟩
  | 10, ⟨s, t, e, h1, h2⟩ => exact ⟨s, t, e, SlB.ext h1 k, SlB.ext h2 k⟩
  | 16, ⟨s, e, h⟩ => exact ⟨s, e, SlB.ext h k⟩
  | 17, h => exact P31.ext h k
  | 18, ⟨s, e, h⟩ => exact ⟨s, e, P31.ext h k⟩
  | 19, h => exact P33.ext h k
  | 20, ⟨s, t, e, h1, h2⟩ => exact ⟨s, t, e, SlB.ext h1 k, P33.ext h2 k⟩
  | 21, h | 22, h => exact P35.ext h k
  | _ + 23, _ => trivial
theorem Ext_alloc (w : World) (o : Obj) : Ext w (w.alloc o) := (Below.refl _ _).alloc (Nat.le_refl _) _
end Go.Proofs
