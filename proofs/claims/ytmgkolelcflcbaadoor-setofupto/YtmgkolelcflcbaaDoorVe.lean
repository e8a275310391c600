/-
  Rows of ranges that grow; Any, Runes, Strays.
-/
import Derived.RangeFuncNested
import Derived.RangeFuncBound
import Derived.RangeFuncCalls
import Derived.RangeFuncLeaves
import Derived.Shelf.Abstract
import Derived.Shelf.RegionOpen
import Derived.WalkKit
import Derived.WalkSpells
import Derived.WalkLawsBesides
import Derived.OwnWalkIn
import Derived.TacticsInMore
import Derived.LoopNIn
import Derived.LoopIn
import Derived.BigQuiet
import Derived.RegionIn
import Derived.Deep.QuietTactic
import Derived.Deep.RegionWith
import Derived.Lib.OthersKept
import Derived.Maps.AppendAt
import Derived.Lib.SmallJoins
import Derived.Test.YtmgkolelcflcbaaDoorVd
namespace Go.Proofs
open Go.RowKit Go.Shelf

set_option maxRecDepth 100000
attribute [local go_sem] Oper.semAt_some
/-- the cells of ranges -/
def fl (l : List (Int × Int)) : List Value := l.flatMap fun x => [Value.int .i64 x.1, Value.int .i64 x.2]
theorem fl_append (l k : List (Int × Int)) : fl (l ++ k) = fl l ++ fl k := by simp [fl]
theorem fl_length (l : List (Int × Int)) : (fl l).length = l.length * 2 := by
  induction l with
  | nil => rfl
  | cons a l ih => simp [fl] at ih ⊢; omega
theorem fl_at (l : List (Int × Int)) {j : Nat} (hj : j < l.length) : (fl l)[j * 2]? = some (Value.int .i64 (rg l j).1) ∧ (fl l)[j * 2 + 1]? = some (Value.int .i64 (rg l j).2) := by
  induction l generalizing j with
  | nil => simp at hj
  | cons a l ih =>
    cases j with
    | zero => exact ⟨by simp [fl, rg], by simp [fl, rg]⟩
    | succ j =>
      have := ih (j := j) (by simpa using hj)
      rw [show (j + 1) * 2 = j * 2 + 1 + 1 by omega]
      simpa [fl, rg] using this
theorem fl_one (l : List (Int × Int)) : ∀ u ∈ fl l, u.oneCell' = true := by
  intro u hu
  simp only [fl, List.mem_flatMap] at hu
  obtain ⟨x, _, hx⟩ := hu
  simp only [List.mem_cons, List.not_mem_nil, or_false] at hx
  rcases hx with rfl | rfl <;> rfl
/-- a row of the call's own -/
def OwnR (w : World) (base : Nat) (v : Value) (l : List (Int × Int)) : Prop := w.ownsRow base 38 2 v l.length (fl l)
theorem OwnR.nil (w : World) (base : Nat) : OwnR w base (.slice none 0 0) [] := World.ownsRow_nil _ _ _ _
theorem add_zero_at (g j : Nat) : (⟨g, 0, none⟩ : Addr).add j = ⟨g, j, none⟩ := by
  unfold Addr.add
  by_cases h : j = 0
  · subst h; rfl
  · simp [h]
theorem OwnR.reads {w : World} {base g n cap : Nat} {l : List (Int × Int)} (h : OwnR w base (.slice (some ⟨g, 0, none⟩) n cap) l) : Reads w g 0 l := fun j hj => by
  have h1 := h.cells rfl
  have := fl_at l hj
  have a1 := h1 _ _ this.1
  have a2 := h1 _ _ this.2
  rw [add_zero_at] at a1 a2
  rw [Nat.zero_add]
  exact ⟨a1, a2⟩
theorem OwnR.rs {w : World} {base : Nat} {v : Value} {l : List (Int × Int)} (h : OwnR w base v l) : Rs w v l := by
  rcases h.2 with ⟨rfl, h0⟩ | ⟨g, cap, cur, rfl, _, _, hc, _⟩
  · have : l = [] := List.eq_nil_of_length_eq_zero h0
    subst this
    exact ⟨none, 0, rfl, Nat.le_refl _, .inl rfl⟩
  · exact ⟨_, cap, rfl, hc, .inr ⟨g, 0, rfl, OwnR.reads h⟩⟩
theorem OwnR.le {w : World} {base base' : Nat} {v : Value} {l : List (Int × Int)} (h : OwnR w base v l) (hb : base' ≤ base) : OwnR w base' v l := Joins.ownsRow_le h hb
theorem OwnR.alloc {w : World} {base : Nat} {v : Value} {l : List (Int × Int)} (h : OwnR w base v l) (o : Obj) : OwnR (w.alloc o) base v l := World.ownsRow.alloc h o
theorem OwnR.kept {w w' : World} {row : Option Nat} {base : Nat} {v : Value} {l : List (Int × Int)} (h : OwnR w base v l) (hg : w.grownBy w' row) (hne : v.ownBlock = none ∨ v.ownBlock ≠ row) : OwnR w' base v l := World.ownsRow.kept h hg hne
theorem OwnR.below {w w' : World} {base n : Nat} {v : Value} {l : List (Int × Int)} (h : OwnR w base v l) (hb : Below n w w') (hn : w.heap.size ≤ n) : OwnR w' base v l := by
  refine ⟨h.1, ?_⟩
  rcases h.2 with h | ⟨g, cap, cur, rfl, h1, h2, h3⟩
  · exact .inl h
  · have : g < w.heap.size := (Array.getElem?_eq_some_iff.1 h2).1
    exact .inr ⟨g, cap, cur, rfl, h1, (hb.block g (by omega)).trans h2, h3⟩
theorem info38 : (Tryd.prog.info? 38).map (fun i => (i.zero, i.size, i.bytes)) = some (some (.agg #[.int .i64 0, .int .i64 0]), 2, 16) := by kernel_rfl
theorem own_below {w w' : World} {base : Nat} {v : Value} {l : List (Int × Int)} (h : OwnR w base v l) (hb : base ≤ w.heap.size) (hg : w.grownBy w' v.ownBlock) : Below base w w' := (Below.refl _ w).grown hg hb (fun k hk => (World.ownsRow.lt h k hk).1)
/-- one range more behind a row of the call's own -/
theorem push_R {ops : Array Oper} {rest : List Oper} {o : Oper} {a : Act} {Q : Exit → Act → World → Prop} {w : World} (hgd : o.guard = none) (s x : Operand) (t : TypeId)
    (ho : o.op = .call { callee := .builtin .append, args := #[s, x], argTypes := #[t, t] }) (ht : Tryd.prog.underlying t = some (.slice 38))
    (base : Nat) (v : Value) (l : List (Int × Int)) (hs : a.eval s = v) (hown : OwnR w base v l) (g c : Nat) (p q : Int) (hx : a.eval x = .slice (some ⟨g, 0, none⟩) 1 c)
    (hp : w.cell? ⟨g, 0, none⟩ = some (.int .i64 p)) (hq : w.cell? ⟨g, 1, none⟩ = some (.int .i64 q)) (hl : l.length + 1 ≤ 8796093022208) (hbase : base ≤ w.heap.size)
    (h : ∀ v' w', OwnR w' base v' (l ++ [(p, q)]) → w.grownBy w' v.ownBlock → Below base w w' → wpList Tryd.prog ops Q rest (a.put o.dst v') w') : wpList Tryd.prog ops Q (o :: rest) a w := by
  obtain ⟨i0, hi, hz0, hz1, hz2⟩ := info_parts info38
  refine wpList_append_own w hgd s x t ho base 38 i0 (.agg #[.int .i64 0, .int .i64 0]) 2 16 ht hi hz0 hz1 hz2 rfl (by decide) v l.length (fl l) hs hown ⟨g, 0, none⟩ 1 c (fl [(p, q)]) hx rfl ?_ (fl_one _) (by unfold maxLen; omega) (by omega) hbase (fun v' w' h2 h3 _ => h v' w' ?_ h3 (own_below hown hbase h3))
  · intro j u hj
    match j, hj with
    | 0, hj => simp [fl] at hj; subst hj; exact hp
    | 1, hj => simp [fl] at hj; subst hj; exact hq
  · unfold OwnR
    rw [fl_append, List.length_append]
    exact h2
def allU : List (Int × Int) := [(0, 55295), (57344, 1114111), (1114240, 1114367)]
theorem allU_take (k : Nat) (hk : k < 3) : allU.take (k + 1) = allU.take k ++ [rg allU k] := by
  rw [List.take_succ_eq_append_getElem hk, rg_lt hk]
set_option maxHeartbeats 1000000 in
theorem any_any (w : World) (hT : Tab w) : Calls Tryd.prog 13 #[] w fun e w' => ∃ v, e = .returned v ∧ OwnR w' w.heap.size v allU ∧ Below w.heap.size w w' := by
  have t0 := hT.cell 0 (.int .i64 0) rfl
  have t1 := hT.cell 1 (.int .i64 55295) rfl
  have t2 := hT.cell 2 (.int .i64 57344) rfl
  have t3 := hT.cell 3 (.int .i64 1114111) rfl
  have t4 := hT.cell 4 (.int .i64 1114240) rfl
  have t5 := hT.cell 5 (.int .i64 1114367) rfl
  go_enter Tryd.func13, Tryd.ntmps13
  go_wp2
  clear t0 t1 t2 t3 t4 t5
  go_loopw [1, 5] (fun vs vi wr => ∃ k : Nat, vi = .int .i64 k ∧ k ≤ 3 ∧ OwnR wr w.heap.size vs (allU.take k) ∧ Below w.heap.size w wr) (fun _ vi _ => 3 - (intOf vi).toNat)
  case atStart => exact ⟨0, rfl, by omega, OwnR.nil _ _, Below.refl _ _⟩
  case round =>
    obtain ⟨k, rfl, hk, hO, hB⟩ := hrel
    have hz := hB.size
    have hk5 : k = 0 ∨ k = 1 ∨ k = 2 ∨ k = 3 := by omega
    rcases hk5 with rfl | rfl | rfl | rfl
    · have hix := idx0
      go_wp2_with (at_builtin; go_must (refine push_R rfl _ _ 29 rfl Tryd.underlying29 w.heap.size _ _ rfl ((hO.alloc _).alloc _) _ _ 0 55295 rfl (by simp) (by simp) (by decide) (by simp; omega) ?_); intro v' w1 hO1 _ hb1)
      exact ⟨⟨1, rfl, by omega, hO1, ((hB.alloc hz _).alloc (by simp; omega) _).trans hb1⟩, by simp [intOf]⟩
    · have hix := idx1
      go_wp2_with (at_builtin; go_must (refine push_R rfl _ _ 29 rfl Tryd.underlying29 w.heap.size _ _ rfl ((hO.alloc _).alloc _) _ _ 57344 1114111 rfl (by simp) (by simp) (by decide) (by simp; omega) ?_); intro v' w1 hO1 _ hb1)
      exact ⟨⟨2, rfl, by omega, hO1, ((hB.alloc hz _).alloc (by simp; omega) _).trans hb1⟩, by simp [intOf]⟩
    · have hix := idx2
      go_wp2_with (at_builtin; go_must (refine push_R rfl _ _ 29 rfl Tryd.underlying29 w.heap.size _ _ rfl ((hO.alloc _).alloc _) _ _ 1114240 1114367 rfl (by simp) (by simp) (by decide) (by simp; omega) ?_); intro v' w1 hO1 _ hb1)
      exact ⟨⟨3, rfl, by omega, hO1, ((hB.alloc hz _).alloc (by simp; omega) _).trans hb1⟩, by simp [intOf]⟩
    · go_wp2
      go_ret
      exact ⟨_, rfl, hO, hB⟩
theorem rg_slice {w : World} {g o : Nat} {l : List (Int × Int)} (h : Reads w g o l) (a : Nat) : Reads w g (o + a * 2) (l.drop a) := fun j hj => by
  rw [List.length_drop] at hj
  have := h (a + j) (by omega)
  rw [show rg (l.drop a) j = rg l (a + j) by simp only [rg]; rw [List.getElem?_drop], show o + a * 2 + j * 2 = o + (a + j) * 2 by omega]
  exact this
set_option maxHeartbeats 1000000 in
theorem runes_any (w : World) (hT : Tab w) : Calls Tryd.prog 15 #[] w fun e w' => ∃ v, e = .returned v ∧ Rs w' v [(0, 55295), (57344, 1114111)] ∧ Below w.heap.size w w' := by
  have HC : Hid (Calls Tryd.prog 13 #[] w fun e w' => ∃ v, e = .returned v ∧ OwnR w' w.heap.size v allU ∧ Below w.heap.size w w') := any_any w hT
  go_enter Tryd.func15, Tryd.ntmps15
  go_wp2_with fail
  refine HC.out.mono ?_
  rintro e w1 ⟨v, rfl, hO, hB⟩
  obtain ⟨g, cap, rfl⟩ := Joins.ownsRow_form hO (by decide)
  have hr := OwnR.rs hO
  have hcp : 3 ≤ cap := by obtain ⟨_, _, hs, hcp, _⟩ := hr; cases hs; exact hcp
  have hr2 := hr.take (k := 2) (by decide)
  have hc2 : (2 : Int) ≤ (cap : Int) := by omega
  clear hO hr
  go_wp2
  go_ret
  exact ⟨_, rfl, hr2, hB⟩
set_option maxHeartbeats 1000000 in
theorem strays_any (w : World) (hT : Tab w) : Calls Tryd.prog 17 #[] w fun e w' => ∃ v, e = .returned v ∧ Rs w' v [(1114240, 1114367)] ∧ Below w.heap.size w w' := by
  have HC : Hid (Calls Tryd.prog 13 #[] w fun e w' => ∃ v, e = .returned v ∧ OwnR w' w.heap.size v allU ∧ Below w.heap.size w w') := any_any w hT
  go_enter Tryd.func17, Tryd.ntmps17
  go_wp2_with fail
  refine HC.out.mono ?_
  rintro e w1 ⟨v, rfl, hO, hB⟩
  obtain ⟨g, cap, rfl⟩ := Joins.ownsRow_form hO (by decide)
  have hr := OwnR.rs hO
  have hcp : 3 ≤ cap := by obtain ⟨_, _, hs, hcp, _⟩ := hr; cases hs; exact hcp
  have hr2 := rg_slice (OwnR.reads hO) 2
  have hc2 : (3 : Int) ≤ (cap : Int) := by omega
  clear hO hr
  go_wp2
  go_ret
  exact ⟨_, rfl, ⟨_, 1, rfl, Nat.le_refl _, .inr ⟨g, 4, rfl, hr2⟩⟩, hB⟩
set_option maxHeartbeats 1000000 in
theorem few_any (a : Option Addr) (n c : Nat) (w : World) : Calls Tryd.prog 46 #[.slice a n c] w fun e w' => e = .returned (if n ≤ 512 then .tuple #[.slice a n c, .int .i64 0] else .tuple #[.slice none 0 0, .int .i64 21]) ∧ w' = w := by
  by_cases h : n ≤ 512
  · have h1 : ¬ (512 : Int) < (n : Int) := by omega
    rw [if_pos h]
    clear h
    go_enter Tryd.func46, Tryd.ntmps46
    go_wp2
    go_ret2
    exact ⟨rfl, rfl⟩
  · have h1 : (512 : Int) < (n : Int) := by omega
    rw [if_neg h]
    clear h
    go_enter Tryd.func46, Tryd.ntmps46
    go_wp2
    go_ret2
    exact ⟨rfl, rfl⟩
end Go.Proofs
