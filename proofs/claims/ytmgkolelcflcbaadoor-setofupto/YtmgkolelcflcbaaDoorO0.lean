/-
  Runes and strays as lists of the caller; Of, ours and the document's; a list that is written over.
-/
import Derived.RangeFuncNested
import Derived.RangeFuncBound
import Derived.RangeFuncCalls
import Derived.RangeFuncLeaves
import Derived.Shelf.Abstract
import Derived.Shelf.RegionOpen
import Derived.WalkKit
import Derived.WalkSpells
import Derived.WalkLawsBesides
import Derived.OwnWalkIn
import Derived.TacticsInMore
import Derived.LoopNIn
import Derived.LoopIn
import Derived.BigQuiet
import Derived.RegionIn
import Derived.Deep.QuietTactic
import Derived.Deep.RegionWith
import Derived.Lib.OthersKept
import Derived.Maps.AppendAt
import Derived.Maps.OwnIn
import Derived.Lib.SmallJoins
import Derived.ArgAppend
import Derived.Deep.Upon
import Derived.Deep.AppendLies
import Derived.Test.YtmgkolelcflcbaaDoorJ0
namespace Go.Proofs
open Go.RowKit Go.Shelf

set_option maxRecDepth 100000
attribute [local go_sem] Oper.semAt_some
attribute [local go_sem ↓] Go.wp_at_zero Go.wp_at_succ
theorem OwnR.cut {W : World} {base g n c : Nat} {l : List (Int × Int)} (h : OwnR W base (.slice (some ⟨g, 0, none⟩) n c) l) (i j : Nat) (hij : i ≤ j) (hj : j ≤ l.length) : OwnS W base (.slice (some ⟨g, i * 2, none⟩) (j - i) (j - i)) ((l.drop i).take (j - i)) := by
  rcases h.2 with ⟨e, _⟩ | ⟨g', cap, cur, e, h1, h2, h3, h4, h5, h6⟩
  · cases e
  · injection e with e1 e2 e3
    injection e1 with e1
    injection e1 with e1
    subst e1
    have hl : ((l.drop i).take (j - i)).length = j - i := by rw [List.length_take, List.length_drop]; omega
    refine .inr ⟨g, i * 2, j - i, cur, by rw [hl], h1, h2, by omega, by omega, by omega, fun hlt => by omega, ?_⟩
    rw [hl]
    have hfd : ∀ (m : List (Int × Int)) (i : Nat), (fl m).drop (i * 2) = fl (m.drop i) := fun m => by
      induction m with
      | nil => intro i; simp [fl]
      | cons a m ih =>
        intro i
        cases i with
        | zero => simp
        | succ i =>
          have := ih i
          rw [show (i + 1) * 2 = i * 2 + 1 + 1 by omega]
          simpa [fl] using this
    have hft : ∀ (m : List (Int × Int)) (i : Nat), (fl m).take (i * 2) = fl (m.take i) := fun m => by
      induction m with
      | nil => intro i; simp [fl]
      | cons a m ih =>
        intro i
        cases i with
        | zero => simp [fl]
        | succ i =>
          have := ih i
          rw [show (i + 1) * 2 = i * 2 + 1 + 1 by omega]
          simpa [fl] using this
    rw [← hft, ← hfd, ← h6, List.drop_take, List.take_take]
    congr 1
    omega
def runes2 : List (Int × Int) := [(0, 55295), (57344, 1114111)]
def strays1 : List (Int × Int) := [(1114240, 1114367)]
set_option maxHeartbeats 1000000 in
theorem runes_S (w : World) (hT : Tab w) : Calls Tryd.prog 15 #[] w fun e w' => ∃ v, e = .returned v ∧ OwnS w' w.heap.size v runes2 ∧ Below w.heap.size w w' := by
  have HC : Hid (Calls Tryd.prog 13 #[] w fun e w' => ∃ v, e = .returned v ∧ OwnR w' w.heap.size v allU ∧ Below w.heap.size w w') := any_any w hT
  go_enter Tryd.func15, Tryd.ntmps15
  go_wp2_with fail
  refine HC.out.mono ?_
  rintro e w1 ⟨v, rfl, hO, hB⟩
  obtain ⟨g, cap, rfl⟩ := Joins.ownsRow_form hO (by decide)
  have hr := OwnR.rs hO
  have hcp : 3 ≤ cap := by obtain ⟨_, _, hs, hcp, _⟩ := hr; cases hs; exact hcp
  have hr2 : OwnS w1 w.heap.size (.slice (some ⟨g, 0, none⟩) 2 2) runes2 := OwnR.cut hO 0 2 (by decide) (by decide)
  have hc2 : (2 : Int) ≤ (cap : Int) := by omega
  clear hO hr
  go_wp2
  go_ret
  exact ⟨_, rfl, hr2, hB⟩
set_option maxHeartbeats 1000000 in
theorem strays_S (w : World) (hT : Tab w) : Calls Tryd.prog 17 #[] w fun e w' => ∃ v, e = .returned v ∧ OwnS w' w.heap.size v strays1 ∧ Below w.heap.size w w' := by
  have HC : Hid (Calls Tryd.prog 13 #[] w fun e w' => ∃ v, e = .returned v ∧ OwnR w' w.heap.size v allU ∧ Below w.heap.size w w') := any_any w hT
  go_enter Tryd.func17, Tryd.ntmps17
  go_wp2_with fail
  refine HC.out.mono ?_
  rintro e w1 ⟨v, rfl, hO, hB⟩
  obtain ⟨g, cap, rfl⟩ := Joins.ownsRow_form hO (by decide)
  have hr := OwnR.rs hO
  have hcp : 3 ≤ cap := by obtain ⟨_, _, hs, hcp, _⟩ := hr; cases hs; exact hcp
  have hr2 : OwnS w1 w.heap.size (.slice (some ⟨g, 4, none⟩) 1 1) strays1 := OwnR.cut hO 2 3 (by decide) (by decide)
  have hc2 : (3 : Int) ≤ (cap : Int) := by omega
  clear hO hr
  go_wp2
  go_ret
  exact ⟨_, rfl, hr2, hB⟩
theorem dom_own (w : World) : OwnR (w.alloc (.cells #[.int .i64 0, .int .i64 55295, .int .i64 57344, .int .i64 1114111, .int .i64 1114240, .int .i64 1114367] 38)) w.heap.size (.slice (some ⟨w.heap.size, 0, none⟩) 3 3) allU := lit3 w _ rfl
set_option maxHeartbeats 1000000 in
theorem rrunes_S (w : World) : Calls Tryd.prog 16 #[] w fun e w' => ∃ v, e = .returned v ∧ OwnS w' w.heap.size v runes2 ∧ Below w.heap.size w w' := by
  have HO := Hid.mk2 (dom_own w)
  go_enter Tryd.func16, Tryd.ntmps16
  go_wp2_with fail
  refine (domain_any w).mono ?_
  rintro e w1 ⟨rfl, hw1⟩
  have HO1 : Hid (OwnS w1 w.heap.size (.slice (some ⟨w.heap.size, 0, none⟩) 2 3) runes2) := by
    obtain ⟨_, h2⟩ := HO.out
    rw [← hw1] at h2
    rcases h2 with ⟨e, _⟩ | ⟨g', cap, cur, e, h1, h2, h3, h4, h5, h6⟩
    · cases e
    · injection e with e1 e2 e3
      injection e1 with e1
      injection e1 with e1
      subst e1 e3
      refine .inr ⟨_, 0, 3, cur, rfl, h1, h2, by decide, h4, by omega, fun _ => ⟨rfl, h5⟩, ?_⟩
      have h7 := congrArg (List.take 4) h6
      rw [List.take_take] at h7
      exact h7
  have HB : Hid (Below w.heap.size w w1) := by rw [hw1]; exact (Below.refl _ w).alloc (Nat.le_refl _) _
  clear hw1
  go_wp2
  go_ret
  exact ⟨_, rfl, HO1.out, HB.out⟩
set_option maxHeartbeats 1000000 in
theorem rstrays_S (w : World) : Calls Tryd.prog 18 #[] w fun e w' => ∃ v, e = .returned v ∧ OwnS w' w.heap.size v strays1 ∧ Below w.heap.size w w' := by
  have HO := Hid.mk2 (dom_own w)
  go_enter Tryd.func18, Tryd.ntmps18
  go_wp2_with fail
  refine (domain_any w).mono ?_
  rintro e w1 ⟨rfl, hw1⟩
  have HO1 : Hid (OwnS w1 w.heap.size (.slice (some ⟨w.heap.size, 4, none⟩) 1 1) strays1) := by
    have h2 := HO.out
    rw [← hw1] at h2
    exact OwnR.cut h2 2 3 (by decide) (by decide)
  have HB : Hid (Below w.heap.size w w1) := by rw [hw1]; exact (Below.refl _ w).alloc (Nat.le_refl _) _
  clear hw1
  go_wp2
  go_ret
  exact ⟨_, rfl, HO1.out, HB.out⟩
theorem of_op (v : Value) (l : List (Int × Int)) (w : World) (hT : Tab w) (h : Rs w v l) (hn : 3 * l.length < 8796093022208) : Calls Tryd.prog 10 #[v] w fun e w' => OpQ (fun u => isU u ∧ hasU l u) true w e w' := by
  refine (of_any v l w hT h hn).mono ?_
  rintro e w' ⟨r, hr, hans, hb⟩
  exact OpQ.of hr hans hb
theorem rof_op (v : Value) (l : List (Int × Int)) (w : World) (h : Rs w v l) (hn : 3 * l.length < 8796093022208) : Calls Tryd.prog 11 #[v] w fun e w' => OpQ (fun u => isU u ∧ hasU l u) true w e w' := by
  refine (rof_any v l w h hn).mono ?_
  rintro e w' ⟨r, hr, hans, hb⟩
  exact OpQ.of hr hans hb
/-- a row copied behind a new list -/
theorem app_copy22 {ops : Array Oper} {rest : List Oper} {o : Oper} {a : Act} {Q : Exit → Act → World → Prop} {w : World} (hgd : o.guard = none) (s x : Operand)
    (ho : o.op = .call { callee := .builtin .append, args := #[s, x], argTypes := #[22, 22] }) (base : Nat) (v xv : Value) (l k : List (Int × Int)) (hs : a.eval s = v) (hown : OwnR w base v l) (hx : a.eval x = xv) (hk : Rs w xv k)
    (hn : l.length + k.length ≤ 8796093022208) (hb : base ≤ w.heap.size)
    (h : ∀ v' w', OwnR w' base v' (l ++ k) → Below base w w' → wpList Tryd.prog ops Q rest (a.put o.dst v') w') : wpList Tryd.prog ops Q (o :: rest) a w := by
  obtain ⟨i0, hi, hz0, hz1, hz2⟩ := info_parts info38
  obtain ⟨A, cap, rfl, hc, hr⟩ := hk
  by_cases h0 : k = []
  · subst h0
    refine wpList_plain hgd fun K hK => ?_
    have hrun := app_none o.type v l.length base (fl l) A cap w hown
    unfold Oper.wp
    simp [execOp, ho, resolve, invoke, builtin, hs, hx, hrun, Result.andThen]
    exact hK _ _ (h _ _ (by simpa using hown) (Below.refl _ _))
  · obtain ⟨g, off, rfl, hr2⟩ := hr.resolve_left h0
    refine wpList_plain hgd fun K hK => ?_
    obtain ⟨v', w', hrun, h1, h2, _⟩ := run_append_own (P := Tryd.prog) w base 22 o.type 38 i0 (.agg #[.int .i64 0, .int .i64 0]) 2 16 Tryd.underlying22 hi hz0 hz1 hz2 rfl (by decide) v l.length (fl l) hown ⟨g, off, none⟩ k.length cap (fl k) (fl_length k) (reads_fl hr2) (fl_one _) (by unfold maxLen; omega) (by omega) hb
    unfold Oper.wp
    simp [execOp, ho, resolve, invoke, builtin, hs, hx, hrun, Result.andThen]
    refine hK _ _ (h _ _ ?_ ((Below.refl _ w).grown h2 hb (fun j e => (hown.lt j e).1)))
    unfold OwnR
    rw [List.length_append, fl_append]; exact h1
/-- the first k ranges turned to their first numbers -/
def trn (l : List (Int × Int)) (k : Nat) : List (Int × Int) := (l.take k).map (fun x => (x.1, x.1)) ++ l.drop k
theorem trn_len (l : List (Int × Int)) (k : Nat) : (trn l k).length = l.length := by simp [trn]; omega
theorem trn_at {l : List (Int × Int)} {k : Nat} (hk : k < l.length) : rg (trn l k) k = rg l k := by
  simp only [rg, trn]
  rw [List.getElem?_append_right (by simp; omega)]
  simp [Nat.min_eq_left (Nat.le_of_lt hk)]
theorem trn_step {l : List (Int × Int)} {k : Nat} (hk : k < l.length) : trn l (k + 1) = (trn l k).set k ((rg l k).1, (rg l k).1) := by
  have e : l.drop k = rg l k :: l.drop (k + 1) := by rw [rg_lt hk]; exact List.drop_eq_getElem_cons hk
  simp only [trn]
  rw [e, List.set_append_right _ _ (by simp; omega)]
  rw [take_rg hk, List.map_append, List.append_assoc]
  congr 1
  simp [Nat.min_eq_left (Nat.le_of_lt hk)]
theorem fl_set1 {l : List (Int × Int)} {k : Nat} (hk : k < l.length) (z : Int) : fl (l.set k ((rg l k).1, z)) = (fl l).set (k * 2 + 1) (.int .i64 z) := by
  rw [fl_set]
  congr 1
  have := (fl_at l hk).1
  obtain ⟨h1, h2⟩ := List.getElem?_eq_some_iff.1 this
  apply List.ext_getElem (by simp)
  intro j hj hj2
  rw [List.getElem_set]
  split
  · rename_i e
    subst e
    exact h2.symm
  · rfl
theorem own_set1 {W : World} {base g n c k : Nat} {l : List (Int × Int)} (h : OwnS W base (.slice (some ⟨g, 0, none⟩) n c) l) (hk : k < l.length) (z : Int) : OwnS (W.setCell ⟨g, k * 2 + 1, none⟩ (.int .i64 z)) base (.slice (some ⟨g, 0, none⟩) n c) (l.set k ((rg l k).1, z)) := by
  rcases h with ⟨e, _⟩ | ⟨g', o', cap, cur, e, h1, h2, h3, h4, h5, h6, h7⟩
  · cases e
  · injection e with e1 e2 e3
    injection e1 with e1
    injection e1 with e1 e4
    subst e1 e2 e3 e4
    refine .inr ⟨g, 0, c, _, by simp, h1, cells_setS h2, by simpa using h3, h4, by simpa using h5, by simpa using h6, ?_⟩
    rw [Array.toList_setIfInBounds, List.length_set, fl_set1 hk, ← h7, List.drop_zero, List.drop_zero, List.take_set]
theorem SJ.turn {w0 W : World} {base hb j g n c k : Nat} {l : List (Int × Int)} (h : SJ w0 base hb [(.slice (some ⟨g, 0, none⟩) n c, l)] j W) (hk : k < l.length) (z : Int) : SJ w0 base hb [(.slice (some ⟨g, 0, none⟩) n c, l.set k ((rg l k).1, z))] j (W.setCell ⟨g, k * 2 + 1, none⟩ (.int .i64 z)) := by
  obtain ⟨ov, wv, es, h1, h2, h3, h4, h5, h6⟩ := h
  obtain ⟨hO, hD⟩ := h4 _ (List.mem_singleton.2 rfl)
  obtain ⟨hbg, cur, hcur⟩ := hO.typ (b := g) rfl
  have hg : W.grownBy (W.setCell ⟨g, k * 2 + 1, none⟩ (.int .i64 z)) (some g) := ⟨rfl, rfl, rfl, by simp [World.setCell], fun b hb' hne => turns_set W g _ _ b (fun e => hne (by rw [e]))⟩
  refine ⟨ov, wv, es, h1.row hg (fun b hb' => ?_), h2, h3, fun x hx => ?_, h5.setCell (p := ⟨g, k * 2 + 1, none⟩) (by show w0.heap.size ≤ g; omega) _, h6⟩
  · injection hb' with hb'
    subst hb'
    exact ⟨hD g rfl, cur, hcur⟩
  · obtain rfl := List.mem_singleton.1 hx
    exact ⟨own_set1 hO hk z, hD⟩
end Go.Proofs
