/-
  The document's borders: the ends of a set's ranges.
-/
import Derived.RangeFuncNested
import Derived.RangeFuncBound
import Derived.RangeFuncCalls
import Derived.RangeFuncLeaves
import Derived.Shelf.Abstract
import Derived.Shelf.RegionOpen
import Derived.WalkKit
import Derived.WalkSpells
import Derived.WalkLawsBesides
import Derived.OwnWalkIn
import Derived.TacticsInMore
import Derived.LoopNIn
import Derived.LoopIn
import Derived.BigQuiet
import Derived.RegionIn
import Derived.Deep.QuietTactic
import Derived.Deep.RegionWith
import Derived.Lib.OthersKept
import Derived.Maps.AppendAt
import Derived.Lib.SmallJoins
import Derived.Shelf.SlSortCmp.QuietGrown
import Derived.Deep.AppendLies
import Derived.Deep.RegionLaw
import Derived.Test.YtkijbaofhodplaaDoorHa
namespace Go.Proofs
open Go.RowKit Go.Shelf

set_option maxRecDepth 100000
attribute [local go_sem] Oper.semAt_some
attribute [local go_sem ↓] Go.wp_at_zero Go.wp_at_succ

theorem Hid.mk' {p : Prop} (h : p) : Hid p := h

theorem step_push2 {ops : Array Oper} {o : Oper} {a : Act} {K : Act → World → Prop} {Q : Exit → Act → World → Prop} {E : Prop} {w : World} (hgd : o.guard = none) (s x : Operand) (t : TypeId)
    (ho : o.op = .call { callee := .builtin .append, args := #[s, x], argTypes := #[t, t] }) (ht : Tryd.prog.underlying t = some (.slice 3))
    (base : Nat) (v : Value) (l : List Int) (hs : a.eval s = v) (hown : OwnI w base v l) (g c : Nat) (p q : Int) (hx : a.eval x = .slice (some ⟨g, 0, none⟩) 2 c)
    (hp : w.cell? ⟨g, 0, none⟩ = some (.int .i64 p)) (hq : w.cell? ⟨g, 1, none⟩ = some (.int .i64 q)) (hl : l.length + 2 ≤ 8796093022208) (hbase : base ≤ w.heap.size)
    (h : ∀ v' w', OwnI w' base v' (l ++ [p, q]) → Below base w w' → K (a.put o.dst v') w') : if Region.wanted o (yielded ops a.tmps) = true then Oper.wp Tryd.prog o a w K Q else E := by
  obtain ⟨i0, hi, hz0, hz1, hz2⟩ := info_parts iinfo3
  refine step_append_lies w hgd s x t ho base 3 i0 (.int .i64 0) 1 8 ht hi hz0 hz1 hz2 rfl (by decide) v l.length (ints l) hs hown ⟨g, 0, none⟩ 2 c (ints [p, q]) hx rfl ?_ (fun u hu => by simp [ints] at hu; rcases hu with rfl | rfl <;> rfl) (by omega) (by unfold maxLen; omega) (by omega) hbase _ rfl (fun g' cap w' h2 h3 _ _ => h _ w' ?_ ((Below.refl _ w).grown h3 hbase (fun k hk => (World.ownsRow.lt hown k hk).1)))
  · intro j u hj
    match j, hj with
    | 0, hj => simp [ints] at hj; subst hj; exact hp
    | 1, hj => simp [ints] at hj; subst hj; exact hq
  · unfold OwnI
    rw [ints_append, List.length_append]
    exact h2
def endsL (s : List (Int × Int)) : List Int := s.flatMap fun x => [x.1, x.2 + 1]
theorem endsL_succ {s : List (Int × Int)} {k : Nat} (hk : k < s.length) : endsL (s.take (k + 1)) = endsL (s.take k) ++ [(rg s k).1, (rg s k).2 + 1] := by
  rw [List.take_add_one, List.getElem?_eq_getElem hk, rg_lt hk]
  unfold endsL
  rw [List.flatMap_append]
  simp
theorem endsL_len (s : List (Int × Int)) : (endsL s).length = 2 * s.length := by
  induction s with
  | nil => rfl
  | cons x s ih => simp [endsL] at ih ⊢; omega
theorem OwnI.sl {w : World} {base : Nat} {v : Value} {l : List Int} (h : OwnI w base v l) : ∃ a c, v = .slice a l.length c := by
  obtain ⟨a, c, e, _⟩ := h.ir
  exact ⟨a, c, e⟩
set_option maxHeartbeats 4000000 in
theorem ends_any (v sv : Value) (l : List Int) (s : List (Int × Int)) (w w0 : World) (hS : Rs w0 sv s) (hB : Below w0.heap.size w0 w) (hO : OwnI w w0.heap.size v l) (hb : ∀ x ∈ s, -9000000000000000000 ≤ x.2 ∧ x.2 ≤ 9000000000000000000) (hl : l.length + 2 * s.length ≤ 8796093022208) :
    Calls Tryd.prog 70 #[v, sv] w fun e w' => ∃ v', e = .returned v' ∧ OwnI w' w0.heap.size v' (l ++ endsL s) ∧ Below w0.heap.size w w' := by
  have HS : Hid (∀ V, Below w0.heap.size w V → Rs V sv s) := fun V hv => hS.below (hB.trans hv) (Nat.le_refl _)
  have HB : Hid (∀ x ∈ s, -9000000000000000000 ≤ x.2 ∧ x.2 ≤ 9000000000000000000) := hb
  have HL : Hid (l.length + 2 * s.length ≤ 8796093022208) := hl
  have HO : Hid (OwnI w w0.heap.size v l) := hO
  obtain ⟨sa, sc, hsv, _, _⟩ := hS
  subst hsv
  obtain ⟨n, hn⟩ : ∃ n, s.length = n := ⟨_, rfl⟩
  have HN : Hid (s.length = n) := hn
  rw [hn] at HS ⊢
  have hnI : (n : Int) ≤ 8796093022208 := by omega
  obtain ⟨b0, hb0⟩ : ∃ b0, w0.heap.size = b0 := ⟨_, rfl⟩
  have HZ : Hid (b0 ≤ w.heap.size) := by have := hB.size; show _ ≤ _; omega
  rw [hb0] at HS HO ⊢
  obtain ⟨va, vc, rfl⟩ := hO.sl
  generalize l.length = vn at HO ⊢
  clear hn hb hl hO hB hb0
  go_enter Tryd.func70, Tryd.ntmps70
  go_wp2
  go_loopw [0, 5] (fun vv vi wr => ∃ k : Nat, vi = .int .i64 k ∧ k ≤ n ∧ Hid (OwnI wr b0 vv (l ++ endsL (s.take k)) ∧ Below b0 w wr)) (fun _ vi _ => n - (intOf vi).toNat)
  case atStart => exact ⟨0, rfl, by omega, by simpa [endsL] using HO.out, Below.refl _ _⟩
  case round =>
    obtain ⟨k, rfl, hk, HX⟩ := hrel
    clear HO
    have hk0 : (0 : Int) ≤ (k : Int) := by omega
    by_cases hlt : k < n
    · have hlt' : (k : Int) < (n : Int) := by omega
      have hks : k < s.length := by rw [HN.out]; exact hlt
      obtain ⟨a', c', e', _, hrr⟩ := HS.out wr HX.out.2
      obtain ⟨sg, so, ha', hrd⟩ := hrr.resolve_left (fun e => by rw [e] at hks; simp at hks)
      injection e' with e1 e2 e3
      clear e2 e3
      rw [ha'] at e1
      subst e1
      obtain ⟨q1, q2⟩ := hrd k hks
      have hbd := HB.out (rg s k) (by rw [rg_lt hks]; exact List.getElem_mem hks)
      have HE : Hid (endsL (s.take (k + 1)) = endsL (s.take k) ++ [(rg s k).1, (rg s k).2 + 1]) := endsL_succ hks
      obtain ⟨x, hx⟩ : ∃ x, (rg s k).1 = x := ⟨_, rfl⟩
      obtain ⟨y, hy⟩ : ∃ y, (rg s k).2 = y := ⟨_, rfl⟩
      rw [hx] at q1 HE
      rw [hy] at q2 HE hbd
      obtain ⟨y0, y1⟩ := hbd
      have HY : Hid (IntKind.i64.wrap (y + 1) = y + 1) := IntWalk.i64_in _ ⟨by omega, by omega⟩
      obtain ⟨va', vc', rfl⟩ := HX.out.1.sl
      have HW : Hid (∀ W, Grown wr W → OwnI W b0 (.slice va' (l ++ endsL (s.take k)).length vc') (l ++ endsL (s.take k)) ∧ b0 ≤ W.heap.size) := fun W hg => ⟨HX.out.1.below hg.below (Nat.le_refl _), by have := HX.out.2.size; have := HZ.out; have := hg.size; omega⟩
      have HLN : Hid ((l ++ endsL (s.take k)).length + 2 ≤ 8796093022208) := by
        show _ ≤ _
        have := HL.out
        rw [List.length_append, endsL_len, List.length_take]
        omega
      have HF : Hid (∀ v' W w', Grown wr W → OwnI w' b0 v' ((l ++ endsL (s.take k)) ++ [x, y + 1]) → Below b0 W w' → OwnI w' b0 v' (l ++ endsL (s.take (k + 1))) ∧ Below b0 w w') := fun v' W w' hg h1 h2 => ⟨by rw [HE.out, ← List.append_assoc]; exact h1, (HX.out.2.trans (hg.below.mono (by have := HX.out.2.size; have := HZ.out; omega))).trans h2⟩
      generalize (l ++ endsL (s.take k)).length = vn at HW ⊢
      clear hrr hrd hx hy ha' HX
      go_wp2
      go_region_law (refine step_push2 rfl (.tmp 12) (.tmp 24) 40 rfl Tryd.underlying40 b0 (.slice va' vn vc') (l ++ endsL (s.take k)) rfl (HW.out _ (by (repeat (first | exact Grown.refl _ | refine Grown.alloc ?_ _ | refine Grown.drew ?_ | refine Grown.drewN ?_ _ | refine Grown.quiet ?_ _ _)))).1 _ _ x (y + 1) rfl (by simp) (by first | (simp; done) | (simp; exact HY.out)) HLN.out (HW.out _ (by (repeat (first | exact Grown.refl _ | refine Grown.alloc ?_ _ | refine Grown.drew ?_ | refine Grown.drewN ?_ _ | refine Grown.quiet ?_ _ _)))).2 ?_; intro v2 w2 hO2 hB2; have HO2 : Hid (OwnI w2 b0 v2 (l ++ endsL (s.take (k + 1))) ∧ Below b0 w w2) := HF.out _ _ _ (by (repeat (first | exact Grown.refl _ | refine Grown.alloc ?_ _ | refine Grown.drew ?_ | refine Grown.drewN ?_ _ | refine Grown.quiet ?_ _ _))) hO2 hB2; clear hO2 hB2)
      all_goals (go_wp2; exact ⟨⟨k + 1, by go_num, by omega, HO2⟩, by simp [intOf]; omega⟩)
    · as_aux_lemma =>
        have hge : ¬ (k : Int) < (n : Int) := by omega
        obtain ⟨hX1, hX2⟩ := HX.out
        rw [List.take_of_length_le (by rw [HN.out]; omega)] at hX1
        have HQ := Hid.mk' (And.intro hX1 hX2)
        clear hX1 hX2
        clear HX
        go_wp2
        go_ret
        exact ⟨_, rfl, HQ.out⟩
end Go.Proofs
