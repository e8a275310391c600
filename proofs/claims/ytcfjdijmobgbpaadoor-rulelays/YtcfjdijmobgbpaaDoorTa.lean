/-
  Sets in memory of their own, with a marked place behind them: lent, still.
-/
import Derived.RangeFuncNested
import Derived.RangeFuncBound
import Derived.RangeFuncCalls
import Derived.RangeFuncLeaves
import Derived.Shelf.Abstract
import Derived.Shelf.RegionOpen
import Derived.WalkKit
import Derived.WalkSpells
import Derived.WalkLawsBesides
import Derived.OwnWalkIn
import Derived.TacticsInMore
import Derived.LoopNIn
import Derived.LoopIn
import Derived.BigQuiet
import Derived.RegionIn
import Derived.Deep.QuietTactic
import Derived.Deep.RegionWith
import Derived.Lib.OthersKept
import Derived.Maps.AppendAt
import Derived.Lib.SmallJoins
import Derived.Shelf.SlSortCmp.QuietGrown
import Derived.Test.YtcfjdijmobgbpaaDoorZa
import Derived.Test.YtcfjdijmobgbpaaDoorXb
namespace Go.Proofs
open Go.RowKit Go.Shelf

set_option maxRecDepth 100000
attribute [local go_sem] Oper.semAt_some
attribute [local go_sem ↓] Go.wp_at_zero Go.wp_at_succ
/-- nil, or a slice that has an address -/
def NilOk (v : Value) : Prop := v = .slice none 0 0 ∨ ∃ ad n c, v = .slice (some ad) n c
/-- a set that was lent -/
def LS (W : World) (base : Nat) (ov sv : Value) (l : List (Int × Int)) : Prop :=
  (sv = .slice none 0 0 ∧ ov = .slice none 0 0 ∧ l = []) ∨ ((∃ ad c, sv = .slice (some ad) l.length c) ∧ ∃ g cap, ov = .slice (some ⟨g, 0, none⟩) l.length cap ∧ l.length + 1 ≤ cap ∧ OwnR W base (.slice (some ⟨g, 0, none⟩) (l.length + 1) cap) (l ++ [(-7, -7)]))
theorem LS.below {W W' : World} {base n : Nat} {ov sv : Value} {l : List (Int × Int)} (h : LS W base ov sv l) (hb : Below n W W') (hn : W.heap.size ≤ n) : LS W' base ov sv l := by
  rcases h with h | ⟨h1, g, cap, h2, h3, h4⟩
  · exact .inl h
  · exact .inr ⟨h1, g, cap, h2, h3, h4.below hb hn⟩
theorem LS.le {W : World} {base base' : Nat} {ov sv : Value} {l : List (Int × Int)} (h : LS W base ov sv l) (hb : base' ≤ base) : LS W base' ov sv l := by
  rcases h with h | ⟨h1, g, cap, h2, h3, h4⟩
  · exact .inl h
  · exact .inr ⟨h1, g, cap, h2, h3, h4.le hb⟩
theorem LS.sl {W : World} {base : Nat} {ov sv : Value} {l : List (Int × Int)} (h : LS W base ov sv l) : IsSl ov := by
  rcases h with ⟨_, h, _⟩ | ⟨_, g, cap, h, _⟩
  · exact ⟨_, _, _, h⟩
  · exact ⟨_, _, _, h⟩
theorem rg_left {a b : List (Int × Int)} {j : Nat} (hj : j < a.length) : rg (a ++ b) j = rg a j := by simp only [rg]; rw [List.getElem?_append_left hj]
theorem rg_mark {a : List (Int × Int)} {x : Int × Int} : rg (a ++ [x]) a.length = x := by simp [rg]
theorem LS.rs {W : World} {base : Nat} {ov sv : Value} {l : List (Int × Int)} (h : LS W base ov sv l) : Rs W ov l := by
  rcases h with ⟨_, rfl, rfl⟩ | ⟨_, g, cap, rfl, h3, h4⟩
  · exact ⟨none, 0, rfl, Nat.le_refl _, .inl rfl⟩
  · refine ⟨_, cap, rfl, by omega, .inr ⟨g, 0, rfl, fun j hj => ?_⟩⟩
    have := h4.reads j (by simp; omega)
    rw [rg_left hj] at this
    exact this
theorem LS.mark {W : World} {base g n cap : Nat} {l : List (Int × Int)} (h4 : OwnR W base (.slice (some ⟨g, 0, none⟩) n cap) (l ++ [(-7, -7)])) : W.cell? ⟨g, l.length * 2, none⟩ = some (.int .i64 (-7)) ∧ W.cell? ⟨g, l.length * 2 + 1, none⟩ = some (.int .i64 (-7)) := by
  have := h4.reads l.length (by simp)
  rw [rg_mark] at this
  simpa using this
theorem nil51 (W : World) : (binOp .eql 51 (.slice none 0 0) (.slice none 0 0)).run Tryd.prog W = .ok (.bool true) W := by kernel_rfl
theorem some51 (W : World) (a : Addr) (n c : Nat) : (binOp .eql 51 (.slice (some a) n c) (.slice none 0 0)).run Tryd.prog W = .ok (.bool false) W := by kernel_rfl
/-- a row of ranges behind a row of the call's own -/
theorem app_R {ops : Array Oper} {rest : List Oper} {o : Oper} {a : Act} {Q : Exit → Act → World → Prop} {w : World} (hgd : o.guard = none) (s x : Operand) (t : TypeId)
    (ho : o.op = .call { callee := .builtin .append, args := #[s, x], argTypes := #[t, t] }) (ht : Tryd.prog.underlying t = some (.slice 70))
    (base : Nat) (v : Value) (l b k : List (Int × Int)) (hk : l ++ b = k) (hs : a.eval s = v) (hown : OwnR w base v l) (hv : v ≠ .slice none 0 0) (ad : Addr) (c : Nat) (hx : a.eval x = .slice (some ad) b.length c)
    (hr : Rs w (.slice (some ad) b.length c) b) (hl : l.length + b.length ≤ 8796093022208) (hbase : base ≤ w.heap.size)
    (h : ∀ g cap w', k.length ≤ cap → OwnR w' base (.slice (some ⟨g, 0, none⟩) k.length cap) k → Below base w w' → wpList Tryd.prog ops Q rest (a.put o.dst (.slice (some ⟨g, 0, none⟩) k.length cap)) w') : wpList Tryd.prog ops Q (o :: rest) a w := by
  subst hk
  obtain ⟨i0, hi, hz0, hz1, hz2⟩ := info_parts info38
  refine wpList_append_own w hgd s x t ho base 70 i0 (.agg #[.int .i64 0, .int .i64 0]) 2 16 ht hi hz0 hz1 hz2 rfl (by decide) v l.length (fl l) hs hown ad b.length c (fl b) hx (fl_length b) ?_ (fl_one _) (by unfold maxLen; omega) (by omega) hbase (fun v' w' h2 h3 h4 => ?_)
  · intro j u hj
    obtain ⟨a', c', e, _, hb | ⟨g, o', e2, hR⟩⟩ := hr
    · subst hb; simp [fl] at hj
    · injection e with e1 _ _
      rw [e2] at e1
      injection e1 with e1
      subst e1
      have hjl : j < b.length * 2 := by rw [← fl_length]; exact (List.getElem?_eq_some_iff.1 hj).1
      have hadd : (⟨g, o', none⟩ : Addr).add j = ⟨g, o' + j, none⟩ := by unfold Addr.add; split <;> simp_all
      rw [hadd]
      obtain ⟨i, hi⟩ : ∃ i, j = i * 2 ∨ j = i * 2 + 1 := ⟨j / 2, by omega⟩
      have hil : i < b.length := by omega
      have k1 := hR i hil
      have k2 := fl_at b hil
      rcases hi with rfl | rfl
      · rw [k2.1] at hj; injection hj with hj; subst hj; exact k1.1
      · rw [k2.2] at hj; injection hj with hj; subst hj; rw [← Nat.add_assoc]; exact k1.2
  · have hO : OwnR w' base v' (l ++ b) := by
      unfold OwnR
      rw [List.length_append, fl_append]; exact h2
    rcases hO.2 with ⟨e, _⟩ | ⟨g, cap, cur, e, _, _, hcp, _⟩
    · exact absurd (h4.1 e).1 hv
    · subst e
      exact h g cap w' hcp hO (own_below hown hbase h3)
theorem own_empty (w : World) : OwnR (w.alloc (.cells #[] 70)) w.heap.size (.slice (some ⟨w.heap.size, 0, none⟩) 0 0) [] :=
  ⟨rfl, .inr ⟨w.heap.size, 0, #[], rfl, Nat.le_refl _, heap_alloc_new w _, Nat.le_refl _, Nat.zero_le _, rfl, rfl⟩⟩
theorem lentSet_nil (w : World) : Calls Tryd.prog 56 #[.slice none 0 0] w fun e w' => e = .returned (.slice none 0 0) ∧ w' = w := by
  have he := nil51
  go_enter Tryd.func56, Tryd.ntmps56
  go_wp2
  go_ret
  exact ⟨rfl, rfl⟩
set_option maxHeartbeats 2000000 in
theorem lentSet_some (ad : Addr) (c : Nat) (l : List (Int × Int)) (w : World) (hr : Rs w (.slice (some ad) l.length c) l) (hn : l.length ≤ 1048576) :
    Calls Tryd.prog 56 #[.slice (some ad) l.length c] w fun e w' => ∃ ov, e = .returned ov ∧ LS w' w.heap.size ov (.slice (some ad) l.length c) l ∧ Below w.heap.size w w' := by
  have he := some51
  obtain ⟨n, hnn⟩ : ∃ n, l.length = n := ⟨_, rfl⟩
  have HN : Hid (l.length = n) := hnn
  rw [hnn] at hn
  have hnI : (n : Int) ≤ 1048576 := by omega
  have hn0 : (0 : Int) ≤ (n : Int) := by omega
  have HR : Hid (∀ ob, Rs (w.alloc ob) (.slice (some ad) l.length c) l) := fun ob => hr.grown ((Grown.refl _).alloc ob)
  have HO0 : Hid (OwnR (w.alloc (.cells #[] 70)) w.heap.size (.slice (some ⟨w.heap.size, 0, none⟩) 0 0) []) := own_empty w
  have hx0 : l.length = n := hnn
  rw [hx0]
  clear hr hnn hx0
  go_enter Tryd.func56, Tryd.ntmps56
  go_wp2_with (at_builtin; go_must (first | (refine app_R rfl _ _ 51 rfl Tryd.underlying51 w.heap.size _ [] l l rfl rfl HO0.out (by intro e; cases e) ad c (by rw [HN.out]; rfl) (HR.out _) (by rw [HN.out]; simp; omega) (by simp) ?_; intro g1 c1 w1 _ hO1 hB1; rw [HN.out] at hO1 ⊢) | (refine app_R rfl _ _ 51 rfl Tryd.underlying51 w.heap.size _ l [(-7, -7)] (l ++ [(-7, -7)]) rfl rfl (hO1.alloc _) (by intro e; cases e) ⟨w1.heap.size, 0, none⟩ 1 rfl (rs_one (cell_new rfl rfl) (cell_new rfl rfl)) (by rw [HN.out]; simp; omega) (by have := hB1.size; simp at this ⊢; omega) ?_; intro g2 c2 w2 hc2 hO2 hB2; rw [List.length_append, HN.out] at hc2; simp only [List.length_cons, List.length_nil, Nat.zero_add] at hc2; have hc2I : (n : Int) ≤ (c2 : Int) := (by omega); rw [List.length_append, HN.out] at hO2 ⊢; simp only [List.length_cons, List.length_nil, Nat.zero_add] at hO2 ⊢)))
  go_ret
  refine ⟨_, rfl, .inr ⟨⟨ad, c, by rw [HN.out]⟩, g2, c2, by rw [HN.out]; rfl, by rw [HN.out]; exact hc2, by rw [HN.out]; exact hO2⟩, ?_⟩
  exact (((Below.refl _ w).alloc (Nat.le_refl _) _).trans hB1).trans (((Below.refl _ w1).alloc (by have := hB1.size; simp at this; omega) _).trans hB2)
theorem lentSet_any (sv : Value) (l : List (Int × Int)) (w : World) (hr : Rs w sv l) (hN : NilOk sv) (hn : l.length ≤ 1048576) :
    Calls Tryd.prog 56 #[sv] w fun e w' => ∃ ov, e = .returned ov ∧ LS w' w.heap.size ov sv l ∧ Below w.heap.size w w' := by
  rcases hN with rfl | ⟨ad, n, c, rfl⟩
  · obtain rfl : l = [] := by
      obtain ⟨a, c, e, _⟩ := hr
      injection e with _ e2 _
      exact List.eq_nil_of_length_eq_zero e2.symm
    refine (lentSet_nil w).mono ?_
    rintro e w' ⟨rfl, rfl⟩
    exact ⟨_, rfl, .inl ⟨rfl, rfl, rfl⟩, Below.refl _ _⟩
  · obtain rfl : n = l.length := by
      obtain ⟨a, c, e, _⟩ := hr
      injection e with _ e2 _
    exact lentSet_some ad c l w hr hn
set_option maxHeartbeats 2000000 in
theorem stillSet_nil (w : World) : Calls Tryd.prog 61 #[.slice none 0 0, .slice none 0 0] w fun e w' => e = .returned (.bool true) ∧ Grown w w' := by
  have he := nil51
  go_enter Tryd.func61, Tryd.ntmps61
  go_wp2
  go_loopw [13] (fun vi wr => vi = .int .i64 0 ∧ wr = w) (fun _ _ => 0)
  case atStart => exact ⟨rfl, rfl⟩
  case round =>
    obtain ⟨rfl, rfl⟩ := hrel
    go_wp2
    go_ret
    exact ⟨rfl, Grown.refl _⟩
set_option maxHeartbeats 4000000 in
theorem stillSet_some (g : Nat) (ad : Addr) (c d : Nat) (l : List (Int × Int)) (w : World) (h1 : l = [] ∨ Reads w g 0 l) (h2 : l = [] ∨ ∃ g o, some ad = some ⟨g, o, none⟩ ∧ Reads w g o l) (hm : w.cell? ⟨g, l.length * 2, none⟩ = some (.int .i64 (-7)) ∧ w.cell? ⟨g, l.length * 2 + 1, none⟩ = some (.int .i64 (-7))) (hc : l.length + 1 ≤ c) (hn : l.length ≤ 1048576) :
    Calls Tryd.prog 61 #[.slice (some ⟨g, 0, none⟩) l.length c, .slice (some ad) l.length d] w fun e w' => e = .returned (.bool true) ∧ Grown w w' := by
  have he := some51
  obtain ⟨n, hnn⟩ : ∃ n, l.length = n := ⟨_, rfl⟩
  have HA : Hid (l.length = n) := hnn
  rw [hnn] at hn hc hm ⊢
  have H1 : Hid (l = [] ∨ Reads w g 0 l) := h1
  have H2 : Hid (l = [] ∨ ∃ g o, some ad = some ⟨g, o, none⟩ ∧ Reads w g o l) := h2
  have HMk : Hid (w.cell? ⟨g, n * 2, none⟩ = some (.int .i64 (-7)) ∧ w.cell? ⟨g, n * 2 + 1, none⟩ = some (.int .i64 (-7))) := hm
  have hnI : (n : Int) ≤ 1048576 := by omega
  have hcI : (n : Int) + 1 ≤ (c : Int) := by omega
  clear h1 h2 hnn hm
  go_enter Tryd.func61, Tryd.ntmps61
  go_wp2
  go_loopw [13] (fun vi wr => ∃ k : Nat, vi = .int .i64 k ∧ k ≤ n ∧ Grown w wr) (fun vi _ => n - (intOf vi).toNat)
  case atStart => exact ⟨0, rfl, by omega, Grown.refl _⟩
  case round =>
    obtain ⟨k, rfl, hk, hG⟩ := hrel
    have hpos : (0 : Int) ≤ (k : Int) := by omega
    by_cases hlt : k < n
    · as_aux_lemma =>
        have hlt' : (k : Int) < (n : Int) := by omega
        have hka : k < l.length := by rw [HA.out]; exact hlt
        have hr1 := H1.out.resolve_left (fun e => by rw [e] at hka; simp at hka)
        obtain ⟨g2, o2, hB1, hr2⟩ := H2.out.resolve_left (fun e => by rw [e] at hka; simp at hka)
        injection hB1 with hB1
        subst hB1
        obtain ⟨p, q, hpq⟩ : ∃ p q : Int, rg l k = (p, q) := ⟨_, _, rfl⟩
        have x1 := hr1 k hka
        have x2 := hr2 k hka
        rw [hpq, Nat.zero_add] at x1
        rw [hpq] at x2
        have cp := hG.cellv x1.1
        have cq := hG.cellv x1.2
        have cs := hG.cellv x2.1
        have ct := hG.cellv x2.2
        simp only at cp cq cs ct
        have hne := neq_R p q p q
        simp only [decide_true, Bool.not_true] at hne
        clear x1 x2 hr1 hr2 hpq
        go_wp2
        go_quiet (fail)
        go_wp2
        exact ⟨⟨k + 1, by go_num, by omega, hG.drewN _⟩, by simp [intOf]; omega⟩
    · as_aux_lemma =>
        have hge : ¬ (k : Int) < (n : Int) := by omega
        have m0 := hG.cellv HMk.out.1
        have m1 := hG.cellv HMk.out.2
        go_wp2
        go_ret
        exact ⟨rfl, hG⟩
theorem stillSet_any (ov sv : Value) (base : Nat) (l : List (Int × Int)) (w : World) (h : LS w base ov sv l) (hs : Rs w sv l) (hn : l.length ≤ 1048576) : Calls Tryd.prog 61 #[ov, sv] w fun e w' => e = .returned (.bool true) ∧ Grown w w' := by
  have hrs := h.rs
  rcases h with ⟨rfl, rfl, rfl⟩ | ⟨⟨ad, c, rfl⟩, g, cap, rfl, h3, h4⟩
  · exact stillSet_nil w
  · refine stillSet_some g ad cap c l w ?_ ?_ (LS.mark h4) h3 hn
    · obtain ⟨a, c', e, _, h | ⟨g', o', e2, h⟩⟩ := hrs
      · exact .inl h
      · injection e with e1 _ _
        rw [e2] at e1
        injection e1 with e1
        injection e1 with q1 q2 _
        subst q1 q2
        exact .inr h
    · obtain ⟨a, c', e, _, h⟩ := hs
      injection e with e1 _ _
      rw [← e1] at h
      exact h
end Go.Proofs
