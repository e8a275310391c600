/-
  A table of sets, and all that it is asked.
-/
import Derived.RangeFuncNested
import Derived.RangeFuncBound
import Derived.RangeFuncCalls
import Derived.RangeFuncLeaves
import Derived.Shelf.Abstract
import Derived.Shelf.RegionOpen
import Derived.WalkKit
import Derived.WalkSpells
import Derived.WalkLawsBesides
import Derived.OwnWalkIn
import Derived.TacticsInMore
import Derived.LoopNIn
import Derived.LoopIn
import Derived.BigQuiet
import Derived.RegionIn
import Derived.Deep.QuietTactic
import Derived.Deep.RegionWith
import Derived.Lib.OthersKept
import Derived.Maps.AppendAt
import Derived.Lib.SmallJoins
import Derived.Shelf.SlSortCmp.QuietGrown
import Derived.Test.YtjjkomaokgmkhaaDoorMcn
namespace Go.Proofs
open Go.RowKit Go.Shelf

set_option maxRecDepth 100000
attribute [local go_sem] Oper.semAt_some
attribute [local go_sem ↓] Go.wp_at_zero Go.wp_at_succ

/-- a table of some sets -/
structure Atm (W : World) (base B : Nat) (ss : List (List (Int × Int))) (LL : List Nat) (L0 : Nat) (all : List (Int × Int)) (s : FS) : Prop where
  done : Done ss LL L0 all s
  tbl : Tbl W base B ss.length s LL.length
  b1 : s.st.length ≤ 10000
  b2 : s.wh.length ≤ 10000
  b3 : LL.length ≤ 10002
  b4 : s.ps.length ≤ 1000000000
  b5 : ss.length ≤ 5000
theorem Atm.fr {W : World} {base B : Nat} {ss : List (List (Int × Int))} {LL : List Nat} {L0 : Nat} {all : List (Int × Int)} {s : FS} (h : Atm W base B ss LL L0 all s) {W' : World} {D : Nat → Prop} (hf : Fr W W' D) (hD : ∀ k, D k → k < base ∨ W.heap.size ≤ k) : Atm W' base B ss LL L0 all s := ⟨h.done, h.tbl.fr hf hD, h.b1, h.b2, h.b3, h.b4, h.b5⟩
theorem Atm.grown {W : World} {base B : Nat} {ss : List (List (Int × Int))} {LL : List Nat} {L0 : Nat} {all : List (Int × Int)} {s : FS} (h : Atm W base B ss LL L0 all s) {W' : World} (hg : Grown W W') : Atm W' base B ss LL L0 all s := ⟨h.done, h.tbl.grown hg, h.b1, h.b2, h.b3, h.b4, h.b5⟩
theorem Atm.below {W : World} {base B : Nat} {ss : List (List (Int × Int))} {LL : List Nat} {L0 : Nat} {all : List (Int × Int)} {s : FS} (h : Atm W base B ss LL L0 all s) {W' : World} {n : Nat} (hb : Below n W W') (hn : W.heap.size ≤ n) : Atm W' base B ss LL L0 all s := h.fr (fr_below hb hn fun _ => False) fun _ e => e.elim
theorem NewQ.atm {w W : World} {ss : List (List (Int × Int))} {B : Nat} (h : NewQ w ss B W) (hb : ss.length ≤ 5000) : ∃ LL L0 all s, Atm W w.heap.size B ss LL L0 all s ∧ Below w.heap.size w W := by
  obtain ⟨LL, L0, all, s, h1, h2, h3, h4, h5, h6, h7⟩ := h
  exact ⟨LL, L0, all, s, ⟨h1, h2, h4, h5, h6, h7, hb⟩, h3⟩
theorem Atm.spl {W : World} {base B : Nat} {ss : List (List (Int × Int))} {LL : List Nat} {L0 : Nat} {all : List (Int × Int)} {s : FS} (h : Atm W base B ss LL L0 all s) : s.sp.length = s.wh.length := h.done.fi.sl
theorem Atm.len {W : World} {base B : Nat} {ss : List (List (Int × Int))} {LL : List Nat} {L0 : Nat} {all : List (Int × Int)} {s : FS} (h : Atm W base B ss LL L0 all s) : Calls Tryd.prog 11 #[.pointer (some ⟨B, 0, none⟩)] W fun e w' => e = .returned (.int .i64 (s.wh.length : Int)) ∧ w' = W := by
  obtain ⟨sv, bv, pv, wv, mv, sps, h1, h2, h3⟩ := h.tbl
  have hl : sps.length = s.wh.length := by rw [← h.spl, ← h2]; simp
  rw [← hl]
  exact len11_any h1
theorem Atm.of {W : World} {base B : Nat} {ss : List (List (Int × Int))} {LL : List Nat} {L0 : Nat} {all : List (Int × Int)} {s : FS} (h : Atm W base B ss LL L0 all s) (u : Int) : Calls Tryd.prog 13 #[.pointer (some ⟨B, 0, none⟩), .int .i64 u] W fun e w' => e = .returned (.int .i64 (ofP s.st s.bg u)) ∧ Grown W w' := by
  obtain ⟨sv, bv, pv, wv, mv, sps, h1, h2, h3⟩ := h.tbl
  exact of_any h1 h.done.fi.bl h.done.fi.inc (by have := h.b1; omega) u
theorem Atm.setno {W : World} {base B : Nat} {ss : List (List (Int × Int))} {LL : List Nat} {L0 : Nat} {all : List (Int × Int)} {s : FS} (h : Atm W base B ss LL L0 all s) (a : Int) (ha : ¬ (0 ≤ a ∧ a < (s.wh.length : Int))) : Calls Tryd.prog 15 #[.pointer (some ⟨B, 0, none⟩), .int .i64 a] W fun e w' => e = .returned (.tuple #[.slice none 0 0, .bool false]) ∧ w' = W :=
  set_no h.tbl (by rw [h.spl]; exact h.b2) a (by rw [h.spl]; exact ha)
theorem Atm.spanl {W : World} {base B : Nat} {ss : List (List (Int × Int))} {LL : List Nat} {L0 : Nat} {all : List (Int × Int)} {s : FS} (h : Atm W base B ss LL L0 all s) : ∀ l ∈ s.sp, l.length ≤ 10000 := fun l hl => by
  obtain ⟨k, hk, rfl⟩ := List.getElem_of_mem hl
  have e := h.done.fi.seg k (by rw [← h.spl]; exact hk)
  rw [List.getElem?_eq_getElem hk] at e
  injection e with e
  rw [e]
  have := segs_len k s.st s.bg
  have := h.b1
  omega
theorem Atm.set {W : World} {base B : Nat} {ss : List (List (Int × Int))} {LL : List Nat} {L0 : Nat} {all : List (Int × Int)} {s : FS} (h : Atm W base B ss LL L0 all s) {k : Nat} (hk : k < s.wh.length) : ∃ l, (RwOk l ∧ (∀ u, inS l u ↔ ofP s.st s.bg u = k) ∧ l.length ≤ 10000) ∧ Calls Tryd.prog 15 #[.pointer (some ⟨B, 0, none⟩), .int .i64 (k : Int)] W fun e w' => ∃ v, e = .returned (.tuple #[v, .bool true]) ∧ OwnR w' W.heap.size v l ∧ Below W.heap.size W w' := by
  obtain ⟨l, h1, h2, h3⟩ := h.done.span hk
  exact ⟨l, ⟨h2, h3, h.spanl l (List.mem_of_getElem? h1)⟩, set_yes h.tbl (by rw [h.spl]; exact h.b2) (fun l hl => by have := h.spanl l hl; omega) h1⟩
theorem Done.down {ss : List (List (Int × Int))} {LL : List Nat} {L0 : Nat} {all : List (Int × Int)} {s : FS} (h : Done ss LL L0 all s) {u : Int} {k w n : Nat} (hk : ofP s.st s.bg u = k) (hw : s.wh[k]? = some w) (hn : n < ss.length) : hasOk s.ps LL.length w (n / 64) ∧ hasP s.ps LL.length w (n / 64) < 18446744073709551616 := by
  have hS := h.fit.1
  have hK : Kd LL L0 s.ps w (rowD L0 all u) := by
    rcases h.fi.of h.k0 u with ⟨h1, _⟩ | ⟨k', w', h1, h2, h3⟩
    · omega
    · have : k' = k := by omega
      subst this
      rw [hw] at h2
      injection h2 with h2
      subst h2
      exact h3
  obtain ⟨up, c1, c2, c3, c4⟩ := hK
  obtain ⟨t1, t2⟩ := top_last hS c2
  have hul : up.length = LL.length := by rw [← c2]; simp
  have hwd : n / 64 < (rowD L0 all u).length := by
    rw [c3]
    have := h.fit.2.1
    omega
  have hl : ((rowD L0 all u) :: up).getD up.length [] = [topOf up] := by
    rw [← t2, List.getLast?_eq_some_getLast t1, List.getD_eq_getElem?_getD]
    have : ((rowD L0 all u) :: up)[up.length]? = up[up.length - 1]? := by
      have := List.length_pos_iff.2 t1
      rw [show up.length = (up.length - 1) + 1 by omega, List.getElem?_cons_succ]
      simp
    rw [this, ← List.getLast?_eq_getElem?, List.getLast?_eq_some_getLast t1]
  have hlen := c1.len hwd up.length (Nat.le_refl _)
  have hat := hasP_at c1 hwd up.length (Nat.le_refl _)
  have hok := hasOk_at c1 hwd up.length (Nat.le_refl _)
  rw [hl] at hlen hat hok
  have h0 : n / 64 / 2 ^ up.length = 0 := by simp at hlen; exact Nat.div_eq_of_lt hlen
  rw [h0, c4] at hat hok
  simp only [List.getD_cons_zero] at hat hok
  rw [hul] at hat hok
  refine ⟨hok, ?_⟩
  rw [hat]
  exact (rowD_w64 L0 all u).getD _
theorem Atm.inno {W : World} {base B : Nat} {ss : List (List (Int × Int))} {LL : List Nat} {L0 : Nat} {all : List (Int × Int)} {s : FS} (h : Atm W base B ss LL L0 all s) (a m : Int) (ha : ¬ (0 ≤ a ∧ a < (s.wh.length : Int) ∧ 0 ≤ m ∧ m < (ss.length : Int))) : Calls Tryd.prog 17 #[.pointer (some ⟨B, 0, none⟩), .int .i64 a, .int .i64 m] W fun e w' => e = .returned (.bool false) ∧ Grown W w' := by
  by_cases h0 : 0 ≤ a ∧ a < (s.wh.length : Int)
  · exact in_not h.tbl (by rw [h.spl]; exact h.b2) a m (by rw [h.spl]; exact h0) fun e => ha ⟨h0.1, h0.2, e.1, e.2⟩
  · exact in_out h.tbl (by rw [h.spl]; exact h.b2) a m (by rw [h.spl]; exact h0)
theorem Atm.inyes {W : World} {base B : Nat} {ss : List (List (Int × Int))} {LL : List Nat} {L0 : Nat} {all : List (Int × Int)} {s : FS} (h : Atm W base B ss LL L0 all s) {u : Int} {k m : Nat} (hk : ofP s.st s.bg u = k) (hm : m < ss.length) : ∃ b : Bool, (b = true ↔ inS (ss.getD m []) u) ∧ Calls Tryd.prog 17 #[.pointer (some ⟨B, 0, none⟩), .int .i64 (k : Int), .int .i64 (m : Int)] W fun e w' => e = .returned (.bool b) ∧ Grown W w' := by
  obtain ⟨k', e1, e2⟩ := h.done.tells.yes u (h.done.tells.un hk)
  have hkl : k < s.wh.length := by omega
  obtain ⟨w0, hw⟩ : ∃ w0, s.wh[k]? = some w0 := ⟨_, List.getElem?_eq_getElem hkl⟩
  obtain ⟨d1, d2⟩ := h.done.down hk hw hm
  exact ⟨_, h.done.has hk hw hm, in_yes h.tbl (by rw [h.spl]; exact h.b2) h.spl h.b3 h.b4 (by have := h.b5; omega) hw hm d1 d2⟩
/-! the example -/
instance (a b : Int × Int) : Decidable (ltT a b) := by unfold ltT; infer_instance
def exS : List (List (Int × Int)) := [[(97, 102)], [(99, 112)], []]
def exAll : List (Int × Int) := [(0, 3), (97, 0), (99, 1), (103, 0), (113, 1), (55296, 3), (57344, 3), (1114112, 3), (1114240, 3), (1114368, 3)]
def exF : FS := fillP 20 exAll (fs0 2 [[0]])
theorem ex_done : Done exS [1] 2 exAll exF := by
  have hup : Chn [(0, 0)] (List.replicate 2 0) [[0]] := by
    refine ⟨by decide, fun i hi => ?_, fun i hi => ?_, trivial⟩
    · have : i = 0 := by simp at hi; omega
      subst this
      exact ⟨by decide, by decide⟩
    · have : 1 ≤ i := by simp at hi; omega
      match i, this with
      | i + 1, _ => simp
  have hperm : exAll.Perm (allT 0 (exS ++ [anyR])) := by decide
  refine ⟨okS_of (by decide), ⟨⟨by decide, by decide⟩, by decide, [[0]], by decide, hup, by decide⟩, hperm, ?_⟩
  have := fill_FI (LL := [1]) (L0 := 2) ⟨by decide, by decide⟩ 20 [] exAll (fs0 2 [[0]]) (fs0_FI (by decide) hup) (by decide) (by decide) (by decide) (fun y hy => by simp [fs0] at hy)
  exact this
theorem ex_vals : exF.wh.length = 4 ∧ ofP exF.st exF.bg 97 = 1 ∧ ofP exF.st exF.bg 113 = 0 ∧ ofP exF.st exF.bg 55296 = -1 ∧ exF.sp[2]? = some [(99, 102)] ∧ ofP exF.st exF.bg 99 = 2 ∧ ofP exF.st exF.bg 103 = 3 := by decide +kernel
/-- the example's table, as asked -/
theorem Atm.ex {W : World} {base B : Nat} {LL : List Nat} {L0 : Nat} {all : List (Int × Int)} {s : FS} (h : Atm W base B exS LL L0 all s) : s.wh.length = 4 ∧ ∀ u, ofP s.st s.bg u = ofP exF.st exF.bg u := by
  obtain ⟨h1, h2⟩ := h.done.tells.all ex_done.tells fun u v _ _ => Iff.rfl
  exact ⟨h2.trans ex_vals.1, h1⟩
end Go.Proofs
