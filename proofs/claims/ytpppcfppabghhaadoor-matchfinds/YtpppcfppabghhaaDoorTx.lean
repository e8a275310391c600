/-
  Sets, rows of sets, pieces and rules are lent, and told to be as they were.
-/
import Derived.RangeFuncNested
import Derived.RangeFuncBound
import Derived.RangeFuncCalls
import Derived.RangeFuncLeaves
import Derived.Shelf.Abstract
import Derived.Shelf.RegionOpen
import Derived.WalkKit
import Derived.WalkSpells
import Derived.WalkLawsBesides
import Derived.OwnWalkIn
import Derived.TacticsInMore
import Derived.LoopNIn
import Derived.LoopIn
import Derived.BigQuiet
import Derived.RegionIn
import Derived.Deep.QuietTactic
import Derived.Deep.RegionWith
import Derived.Lib.OthersKept
import Derived.Maps.AppendAt
import Derived.Lib.SmallJoins
import Derived.Shelf.SlSortCmp.QuietGrown
import Derived.Test.YtpppcfppabghhaaDoorT0
import Derived.Deep.LoopGhost
namespace Go.Proofs
open Go.RowKit Go.Shelf

set_option maxRecDepth 100000
attribute [local go_sem] Oper.semAt_some
attribute [local go_sem ↓] Go.wp_at_zero Go.wp_at_succ
/-- nil, or a slice that has an address -/
def NilOk (v : Value) : Prop := v = .slice none 0 0 ∨ ∃ ad n c, v = .slice (some ad) n c
/-- a set that was lent -/
def LS (W : World) (base : Nat) (ov sv : Value) (l : List (Int × Int)) : Prop :=
  (sv = .slice none 0 0 ∧ ov = .slice none 0 0 ∧ l = []) ∨ ((∃ ad c, sv = .slice (some ad) l.length c) ∧ ∃ g cap, ov = .slice (some ⟨g, 0, none⟩) l.length cap ∧ l.length + 1 ≤ cap ∧ OwnR W base (.slice (some ⟨g, 0, none⟩) (l.length + 1) cap) (l ++ [(-7, -7)]))
theorem LS.below {W W' : World} {base n : Nat} {ov sv : Value} {l : List (Int × Int)} (h : LS W base ov sv l) (hb : Below n W W') (hn : W.heap.size ≤ n) : LS W' base ov sv l := by
  rcases h with h | ⟨h1, g, cap, h2, h3, h4⟩
  · exact .inl h
  · exact .inr ⟨h1, g, cap, h2, h3, h4.below hb hn⟩
theorem LS.le {W : World} {base base' : Nat} {ov sv : Value} {l : List (Int × Int)} (h : LS W base ov sv l) (hb : base' ≤ base) : LS W base' ov sv l := by
  rcases h with h | ⟨h1, g, cap, h2, h3, h4⟩
  · exact .inl h
  · exact .inr ⟨h1, g, cap, h2, h3, h4.le hb⟩
theorem LS.sl {W : World} {base : Nat} {ov sv : Value} {l : List (Int × Int)} (h : LS W base ov sv l) : IsSl ov := by
  rcases h with ⟨_, h, _⟩ | ⟨_, g, cap, h, _⟩
  · exact ⟨_, _, _, h⟩
  · exact ⟨_, _, _, h⟩
theorem rg_left {a b : List (Int × Int)} {j : Nat} (hj : j < a.length) : rg (a ++ b) j = rg a j := by simp only [rg]; rw [List.getElem?_append_left hj]
theorem rg_mark {a : List (Int × Int)} {x : Int × Int} : rg (a ++ [x]) a.length = x := by simp [rg]
theorem LS.rs {W : World} {base : Nat} {ov sv : Value} {l : List (Int × Int)} (h : LS W base ov sv l) : Rs W ov l := by
  rcases h with ⟨_, rfl, rfl⟩ | ⟨_, g, cap, rfl, h3, h4⟩
  · exact ⟨none, 0, rfl, Nat.le_refl _, .inl rfl⟩
  · refine ⟨_, cap, rfl, by omega, .inr ⟨g, 0, rfl, fun j hj => ?_⟩⟩
    have := h4.reads j (by simp; omega)
    rw [rg_left hj] at this
    exact this
theorem LS.mark {W : World} {base g n cap : Nat} {l : List (Int × Int)} (h4 : OwnR W base (.slice (some ⟨g, 0, none⟩) n cap) (l ++ [(-7, -7)])) : W.cell? ⟨g, l.length * 2, none⟩ = some (.int .i64 (-7)) ∧ W.cell? ⟨g, l.length * 2 + 1, none⟩ = some (.int .i64 (-7)) := by
  have := h4.reads l.length (by simp)
  rw [rg_mark] at this
  simpa using this
theorem nil51 (W : World) : (binOp .eql 48 (.slice none 0 0) (.slice none 0 0)).run Tryd.prog W = .ok (.bool true) W := by kernel_rfl
theorem some51 (W : World) (a : Addr) (n c : Nat) : (binOp .eql 48 (.slice (some a) n c) (.slice none 0 0)).run Tryd.prog W = .ok (.bool false) W := by kernel_rfl
/-- a row of ranges behind a row of the call's own -/
theorem app_R {ops : Array Oper} {rest : List Oper} {o : Oper} {a : Act} {Q : Exit → Act → World → Prop} {w : World} (hgd : o.guard = none) (s x : Operand) (t : TypeId)
    (ho : o.op = .call { callee := .builtin .append, args := #[s, x], argTypes := #[t, t] }) (ht : Tryd.prog.underlying t = some (.slice 59))
    (base : Nat) (v : Value) (l b k : List (Int × Int)) (hk : l ++ b = k) (hs : a.eval s = v) (hown : OwnR w base v l) (hv : v ≠ .slice none 0 0) (ad : Addr) (c : Nat) (hx : a.eval x = .slice (some ad) b.length c)
    (hr : Rs w (.slice (some ad) b.length c) b) (hl : l.length + b.length ≤ 8796093022208) (hbase : base ≤ w.heap.size)
    (h : ∀ g cap w', k.length ≤ cap → OwnR w' base (.slice (some ⟨g, 0, none⟩) k.length cap) k → Below base w w' → wpList Tryd.prog ops Q rest (a.put o.dst (.slice (some ⟨g, 0, none⟩) k.length cap)) w') : wpList Tryd.prog ops Q (o :: rest) a w := by
  subst hk
  obtain ⟨i0, hi, hz0, hz1, hz2⟩ := info_parts info38
  refine wpList_append_own w hgd s x t ho base 59 i0 (.agg #[.int .i64 0, .int .i64 0]) 2 16 ht hi hz0 hz1 hz2 rfl (by decide) v l.length (fl l) hs hown ad b.length c (fl b) hx (fl_length b) ?_ (fl_one _) (by unfold maxLen; omega) (by omega) hbase (fun v' w' h2 h3 h4 => ?_)
  · intro j u hj
    obtain ⟨a', c', e, _, hb | ⟨g, o', e2, hR⟩⟩ := hr
    · subst hb; simp [fl] at hj
    · injection e with e1 _ _
      rw [e2] at e1
      injection e1 with e1
      subst e1
      have hjl : j < b.length * 2 := by rw [← fl_length]; exact (List.getElem?_eq_some_iff.1 hj).1
      have hadd : (⟨g, o', none⟩ : Addr).add j = ⟨g, o' + j, none⟩ := by unfold Addr.add; split <;> simp_all
      rw [hadd]
      obtain ⟨i, hi⟩ : ∃ i, j = i * 2 ∨ j = i * 2 + 1 := ⟨j / 2, by omega⟩
      have hil : i < b.length := by omega
      have k1 := hR i hil
      have k2 := fl_at b hil
      rcases hi with rfl | rfl
      · rw [k2.1] at hj; injection hj with hj; subst hj; exact k1.1
      · rw [k2.2] at hj; injection hj with hj; subst hj; rw [← Nat.add_assoc]; exact k1.2
  · have hO : OwnR w' base v' (l ++ b) := by
      unfold OwnR
      rw [List.length_append, fl_append]; exact h2
    rcases hO.2 with ⟨e, _⟩ | ⟨g, cap, cur, e, _, _, hcp, _⟩
    · exact absurd (h4.1 e).1 hv
    · subst e
      exact h g cap w' hcp hO (own_below hown hbase h3)
theorem own_empty (w : World) : OwnR (w.alloc (.cells #[] 59)) w.heap.size (.slice (some ⟨w.heap.size, 0, none⟩) 0 0) [] :=
  ⟨rfl, .inr ⟨w.heap.size, 0, #[], rfl, Nat.le_refl _, heap_alloc_new w _, Nat.le_refl _, Nat.zero_le _, rfl, rfl⟩⟩
theorem lentSet_nil (w : World) : Calls Tryd.prog 34 #[.slice none 0 0] w fun e w' => e = .returned (.slice none 0 0) ∧ w' = w := by
  have he := nil51
  go_enter Tryd.func34, Tryd.ntmps34
  go_wp2
  go_ret
  exact ⟨rfl, rfl⟩
set_option maxHeartbeats 2000000 in
theorem lentSet_some (ad : Addr) (c : Nat) (l : List (Int × Int)) (w : World) (hr : Rs w (.slice (some ad) l.length c) l) (hn : l.length ≤ 1048576) :
    Calls Tryd.prog 34 #[.slice (some ad) l.length c] w fun e w' => ∃ ov, e = .returned ov ∧ LS w' w.heap.size ov (.slice (some ad) l.length c) l ∧ Below w.heap.size w w' := by
  have he := some51
  obtain ⟨n, hnn⟩ : ∃ n, l.length = n := ⟨_, rfl⟩
  have HN : Hid (l.length = n) := hnn
  rw [hnn] at hn
  have hnI : (n : Int) ≤ 1048576 := by omega
  have hn0 : (0 : Int) ≤ (n : Int) := by omega
  have HR : Hid (∀ ob, Rs (w.alloc ob) (.slice (some ad) l.length c) l) := fun ob => hr.grown ((Grown.refl _).alloc ob)
  have HO0 : Hid (OwnR (w.alloc (.cells #[] 59)) w.heap.size (.slice (some ⟨w.heap.size, 0, none⟩) 0 0) []) := own_empty w
  have hx0 : l.length = n := hnn
  rw [hx0]
  clear hr hnn hx0
  go_enter Tryd.func34, Tryd.ntmps34
  go_wp2_with (at_builtin; go_must (first | (refine app_R rfl _ _ 48 rfl Tryd.underlying48 w.heap.size _ [] l l rfl rfl HO0.out (by intro e; cases e) ad c (by rw [HN.out]; rfl) (HR.out _) (by rw [HN.out]; simp; omega) (by simp) ?_; intro g1 c1 w1 _ hO1 hB1; rw [HN.out] at hO1 ⊢) | (refine app_R rfl _ _ 48 rfl Tryd.underlying48 w.heap.size _ l [(-7, -7)] (l ++ [(-7, -7)]) rfl rfl (hO1.alloc _) (by intro e; cases e) ⟨w1.heap.size, 0, none⟩ 1 rfl (rs_oneT (cell_new rfl rfl) (cell_new rfl rfl)) (by rw [HN.out]; simp; omega) (by have := hB1.size; simp at this ⊢; omega) ?_; intro g2 c2 w2 hc2 hO2 hB2; rw [List.length_append, HN.out] at hc2; simp only [List.length_cons, List.length_nil, Nat.zero_add] at hc2; have hc2I : (n : Int) ≤ (c2 : Int) := (by omega); rw [List.length_append, HN.out] at hO2 ⊢; simp only [List.length_cons, List.length_nil, Nat.zero_add] at hO2 ⊢)))
  go_ret
  refine ⟨_, rfl, .inr ⟨⟨ad, c, by rw [HN.out]⟩, g2, c2, by rw [HN.out]; rfl, by rw [HN.out]; exact hc2, by rw [HN.out]; exact hO2⟩, ?_⟩
  exact (((Below.refl _ w).alloc (Nat.le_refl _) _).trans hB1).trans (((Below.refl _ w1).alloc (by have := hB1.size; simp at this; omega) _).trans hB2)
theorem lentSet_any (sv : Value) (l : List (Int × Int)) (w : World) (hr : Rs w sv l) (hN : NilOk sv) (hn : l.length ≤ 1048576) :
    Calls Tryd.prog 34 #[sv] w fun e w' => ∃ ov, e = .returned ov ∧ LS w' w.heap.size ov sv l ∧ Below w.heap.size w w' := by
  rcases hN with rfl | ⟨ad, n, c, rfl⟩
  · obtain rfl : l = [] := by
      obtain ⟨a, c, e, _⟩ := hr
      injection e with _ e2 _
      exact List.eq_nil_of_length_eq_zero e2.symm
    refine (lentSet_nil w).mono ?_
    rintro e w' ⟨rfl, rfl⟩
    exact ⟨_, rfl, .inl ⟨rfl, rfl, rfl⟩, Below.refl _ _⟩
  · obtain rfl : n = l.length := by
      obtain ⟨a, c, e, _⟩ := hr
      injection e with _ e2 _
    exact lentSet_some ad c l w hr hn
set_option maxHeartbeats 2000000 in
theorem stillSet_nil (w : World) : Calls Tryd.prog 43 #[.slice none 0 0, .slice none 0 0] w fun e w' => e = .returned (.bool true) ∧ Grown w w' := by
  have he := nil51
  go_enter Tryd.func43, Tryd.ntmps43
  go_wp2
  go_loopw [13] (fun vi wr => vi = .int .i64 0 ∧ wr = w) (fun _ _ => 0)
  case atStart => exact ⟨rfl, rfl⟩
  case round =>
    obtain ⟨rfl, rfl⟩ := hrel
    go_wp2
    go_ret
    exact ⟨rfl, Grown.refl _⟩
set_option maxHeartbeats 4000000 in
theorem stillSet_some (g : Nat) (ad : Addr) (c d : Nat) (l : List (Int × Int)) (w : World) (h1 : l = [] ∨ Reads w g 0 l) (h2 : l = [] ∨ ∃ g o, some ad = some ⟨g, o, none⟩ ∧ Reads w g o l) (hm : w.cell? ⟨g, l.length * 2, none⟩ = some (.int .i64 (-7)) ∧ w.cell? ⟨g, l.length * 2 + 1, none⟩ = some (.int .i64 (-7))) (hc : l.length + 1 ≤ c) (hn : l.length ≤ 1048576) :
    Calls Tryd.prog 43 #[.slice (some ⟨g, 0, none⟩) l.length c, .slice (some ad) l.length d] w fun e w' => e = .returned (.bool true) ∧ Grown w w' := by
  have he := some51
  obtain ⟨n, hnn⟩ : ∃ n, l.length = n := ⟨_, rfl⟩
  have HA : Hid (l.length = n) := hnn
  rw [hnn] at hn hc hm ⊢
  have H1 : Hid (l = [] ∨ Reads w g 0 l) := h1
  have H2 : Hid (l = [] ∨ ∃ g o, some ad = some ⟨g, o, none⟩ ∧ Reads w g o l) := h2
  have HMk : Hid (w.cell? ⟨g, n * 2, none⟩ = some (.int .i64 (-7)) ∧ w.cell? ⟨g, n * 2 + 1, none⟩ = some (.int .i64 (-7))) := hm
  have hnI : (n : Int) ≤ 1048576 := by omega
  have hcI : (n : Int) + 1 ≤ (c : Int) := by omega
  clear h1 h2 hnn hm
  go_enter Tryd.func43, Tryd.ntmps43
  go_wp2
  go_loopw [13] (fun vi wr => ∃ k : Nat, vi = .int .i64 k ∧ k ≤ n ∧ Grown w wr) (fun vi _ => n - (intOf vi).toNat)
  case atStart => exact ⟨0, rfl, by omega, Grown.refl _⟩
  case round =>
    obtain ⟨k, rfl, hk, hG⟩ := hrel
    have hpos : (0 : Int) ≤ (k : Int) := by omega
    by_cases hlt : k < n
    · as_aux_lemma =>
        have hlt' : (k : Int) < (n : Int) := by omega
        have hka : k < l.length := by rw [HA.out]; exact hlt
        have hr1 := H1.out.resolve_left (fun e => by rw [e] at hka; simp at hka)
        obtain ⟨g2, o2, hB1, hr2⟩ := H2.out.resolve_left (fun e => by rw [e] at hka; simp at hka)
        injection hB1 with hB1
        subst hB1
        obtain ⟨p, q, hpq⟩ : ∃ p q : Int, rg l k = (p, q) := ⟨_, _, rfl⟩
        have x1 := hr1 k hka
        have x2 := hr2 k hka
        rw [hpq, Nat.zero_add] at x1
        rw [hpq] at x2
        have cp := hG.cellv x1.1
        have cq := hG.cellv x1.2
        have cs := hG.cellv x2.1
        have ct := hG.cellv x2.2
        simp only at cp cq cs ct
        have hne := neq_R p q p q
        simp only [decide_true, Bool.not_true] at hne
        clear x1 x2 hr1 hr2 hpq
        go_wp2
        go_quiet (fail)
        go_wp2
        exact ⟨⟨k + 1, by go_num, by omega, hG.drewN _⟩, by simp [intOf]; omega⟩
    · as_aux_lemma =>
        have hge : ¬ (k : Int) < (n : Int) := by omega
        have m0 := hG.cellv HMk.out.1
        have m1 := hG.cellv HMk.out.2
        go_wp2
        go_ret
        exact ⟨rfl, hG⟩
theorem stillSet_any (ov sv : Value) (base : Nat) (l : List (Int × Int)) (w : World) (h : LS w base ov sv l) (hs : Rs w sv l) (hn : l.length ≤ 1048576) : Calls Tryd.prog 43 #[ov, sv] w fun e w' => e = .returned (.bool true) ∧ Grown w w' := by
  have hrs := h.rs
  rcases h with ⟨rfl, rfl, rfl⟩ | ⟨⟨ad, c, rfl⟩, g, cap, rfl, h3, h4⟩
  · exact stillSet_nil w
  · refine stillSet_some g ad cap c l w ?_ ?_ (LS.mark h4) h3 hn
    · obtain ⟨a, c', e, _, h | ⟨g', o', e2, h⟩⟩ := hrs
      · exact .inl h
      · injection e with e1 _ _
        rw [e2] at e1
        injection e1 with e1
        injection e1 with q1 q2 _
        subst q1 q2
        exact .inr h
    · obtain ⟨a, c', e, _, h⟩ := hs
      injection e with e1 _ _
      rw [← e1] at h
      exact h
/-- blocks of a type stay -/
def KT (t : TypeId) (W W' : World) : Prop := ∀ (b : Nat) (cs : Array Value) (m : Nat × Nat), W.heap[b]? = some (.cells cs t m) → W'.heap[b]? = some (.cells cs t m)
theorem KT.below {t : TypeId} {W W' : World} (h : Below W.heap.size W W') : KT t W W' := fun b _ _ hb => (h.block b (Array.getElem?_eq_some_iff.1 hb).1).trans hb
theorem own_kt {W W' : World} {base : Nat} {e : TypeId} {size n : Nat} {v : Value} {xs : List Value} (h : W.ownsRow base e size v n xs) (hg : W.grownBy W' v.ownBlock) {t : TypeId} (ht : e ≠ t) : KT t W W' := fun b cs m hb =>
  (hg.block b (Array.getElem?_eq_some_iff.1 hb).1 (fun er => by
    rcases h.2 with ⟨rfl, _⟩ | ⟨g, cap, cur, rfl, _, hgb, _⟩
    · simp [Value.ownBlock] at er
    · obtain rfl : g = b := by simpa [Value.ownBlock] using er.symm
      rw [hgb] at hb
      cases hb
      exact ht rfl)).trans hb
theorem own_kept_t {W W' : World} {base : Nat} {e : TypeId} {size n : Nat} {v : Value} {xs : List Value} (h : W.ownsRow base e size v n xs) (k : KT e W W') : W'.ownsRow base e size v n xs := by
  refine ⟨h.1, ?_⟩
  rcases h.2 with h | ⟨g, cap, cur, e1, h1, h2, h3⟩
  · exact .inl h
  · exact .inr ⟨g, cap, cur, e1, h1, k _ _ _ h2, h3⟩
theorem LS.kt {W W' : World} {base : Nat} {ov sv : Value} {l : List (Int × Int)} (h : LS W base ov sv l) (k : KT 59 W W') : LS W' base ov sv l := by
  rcases h with h | ⟨h1, g, cap, h2, h3, h4⟩
  · exact .inl h
  · exact .inr ⟨h1, g, cap, h2, h3, own_kept_t h4 k⟩
/-- a row of sets that came in, value by value -/
structure SRv (w : World) (v : Value) (svs : List Value) (ls : List (List (Int × Int))) : Prop where
  len : svs.length = ls.length
  el : ∀ (j : Nat) (h1 : j < svs.length) (h2 : j < ls.length), Rs w svs[j] ls[j] ∧ NilOk svs[j]
  nil : NilOk v
  cell : ∃ a cap, v = .slice a ls.length cap ∧ ls.length ≤ cap ∧ (ls = [] ∨ ∃ g o, a = some ⟨g, o, none⟩ ∧ ∀ (j : Nat) (h : j < svs.length), w.cell? ⟨g, o + j, none⟩ = some svs[j])
theorem SRv.below {w w' : World} {n : Nat} {v : Value} {svs : List Value} {ls : List (List (Int × Int))} (h : SRv w v svs ls) (hb : Below n w w') (hn : w.heap.size ≤ n) : SRv w' v svs ls := by
  obtain ⟨h1, h2, h3, a, cap, h4, h5, h6⟩ := h
  refine ⟨h1, fun j a b => ⟨(h2 j a b).1.below hb hn, (h2 j a b).2⟩, h3, a, cap, h4, h5, h6.imp id ?_⟩
  rintro ⟨g, o, e, h⟩
  exact ⟨g, o, e, fun j hj => cell_below (h j hj) hb hn⟩
theorem SRv.grown {w w' : World} {v : Value} {svs : List Value} {ls : List (List (Int × Int))} (h : SRv w v svs ls) (k : Grown w w') : SRv w' v svs ls := h.below k.below (Nat.le_refl _)
theorem SRv.sr {w : World} {v : Value} {svs : List Value} {ls : List (List (Int × Int))} (h : SRv w v svs ls) : SR w v ls := by
  obtain ⟨h1, h2, _, a, cap, h4, h5, h6⟩ := h
  refine ⟨a, cap, h4, h5, h6.imp id ?_⟩
  rintro ⟨g, o, e, h⟩
  exact ⟨g, o, e, fun j hj => ⟨svs[j]'(by omega), h j (by omega), (h2 j (by omega) hj).1⟩⟩
/-- a row of sets that was lent -/
def LR (W : World) (base : Nat) (ov v : Value) (svs : List Value) (ls : List (List (Int × Int))) : Prop :=
  (v = .slice none 0 0 ∧ ov = .slice none 0 0 ∧ ls = []) ∨ ((∃ ad c, v = .slice (some ad) ls.length c) ∧ ∃ g cap ovs gm, ov = .slice (some ⟨g, 0, none⟩) ls.length cap ∧ ls.length + 1 ≤ cap ∧ ovs.length = ls.length ∧ W.ownsRow base 48 1 (.slice (some ⟨g, 0, none⟩) (ls.length + 1) cap) (ls.length + 1) (ovs ++ [.slice (some ⟨gm, 0, none⟩) 1 1]) ∧ W.cell? ⟨gm, 0, none⟩ = some (.int .i64 (-8)) ∧ base ≤ gm ∧ ∀ (j : Nat) (h1 : j < ovs.length) (h2 : j < svs.length) (h3 : j < ls.length), LS W base ovs[j] svs[j] ls[j])
theorem ownsRow_below {W W' : World} {base n : Nat} {e : TypeId} {size m : Nat} {v : Value} {xs : List Value} (h : W.ownsRow base e size v m xs) (hb : Below n W W') (hn : W.heap.size ≤ n) : W'.ownsRow base e size v m xs := by
  refine ⟨h.1, ?_⟩
  rcases h.2 with h | ⟨g, cap, cur, e1, h1, h2, h3⟩
  · exact .inl h
  · have : g < W.heap.size := (Array.getElem?_eq_some_iff.1 h2).1
    exact .inr ⟨g, cap, cur, e1, h1, (hb.block g (by omega)).trans h2, h3⟩
theorem LR.below {W W' : World} {base n : Nat} {ov v : Value} {svs : List Value} {ls : List (List (Int × Int))} (h : LR W base ov v svs ls) (hb : Below n W W') (hn : W.heap.size ≤ n) : LR W' base ov v svs ls := by
  rcases h with h | ⟨h1, g, cap, ovs, gm, h2, h3, h4, h5, h6, hgm, h7⟩
  · exact .inl h
  · exact .inr ⟨h1, g, cap, ovs, gm, h2, h3, h4, ownsRow_below h5 hb hn, cell_below h6 hb hn, hgm, fun j a b c => (h7 j a b c).below hb hn⟩
theorem LR.le {W : World} {base base' : Nat} {ov v : Value} {svs : List Value} {ls : List (List (Int × Int))} (h : LR W base ov v svs ls) (hb : base' ≤ base) : LR W base' ov v svs ls := by
  rcases h with h | ⟨h1, g, cap, ovs, gm, h2, h3, h4, h5, h6, hgm, h7⟩
  · exact .inl h
  · exact .inr ⟨h1, g, cap, ovs, gm, h2, h3, h4, Joins.ownsRow_le h5 hb, h6, Nat.le_trans hb hgm, fun j a b c => (h7 j a b c).le hb⟩
theorem LR.sl {W : World} {base : Nat} {ov v : Value} {svs : List Value} {ls : List (List (Int × Int))} (h : LR W base ov v svs ls) : IsSl ov := by
  rcases h with ⟨_, h, _⟩ | ⟨_, g, cap, _, _, h, _⟩
  · exact ⟨_, _, _, h⟩
  · exact ⟨_, _, _, h⟩
theorem own_cell {W : World} {base : Nat} {e : TypeId} {n c g : Nat} {xs : List Value} (h : W.ownsRow base e 1 (.slice (some ⟨g, 0, none⟩) n c) n xs) {j : Nat} {u : Value} (hj : xs[j]? = some u) : W.cell? ⟨g, j, none⟩ = some u := by
  have := World.ownsRow.cells h rfl j u hj
  rwa [add_zero_at] at this
theorem LR.sr {W : World} {base : Nat} {ov v : Value} {svs : List Value} {ls : List (List (Int × Int))} (h : LR W base ov v svs ls) (hl : svs.length = ls.length) : SR W ov ls := by
  rcases h with ⟨_, rfl, rfl⟩ | ⟨_, g, cap, ovs, gm, rfl, h3, h4, h5, _, _, h7⟩
  · exact ⟨none, 0, rfl, Nat.le_refl _, .inl rfl⟩
  · refine ⟨_, cap, rfl, by omega, .inr ⟨g, 0, rfl, fun j hj => ?_⟩⟩
    refine ⟨ovs[j]'(by omega), ?_, (h7 j (by omega) (by omega) hj).rs⟩
    rw [Nat.zero_add]
    exact own_cell h5 (by rw [List.getElem?_append_left (by omega)]; exact List.getElem?_eq_getElem (by omega))
theorem sinfo51 : (Tryd.prog.info? 48).map (fun i => (i.zero, i.size, i.bytes)) = some (some (.slice none 0 0), 1, 24) := by kernel_rfl
theorem nil22 (W : World) : (binOp .eql 25 (.slice none 0 0) (.slice none 0 0)).run Tryd.prog W = .ok (.bool true) W := by kernel_rfl
theorem some22 (W : World) (a : Addr) (n c : Nat) : (binOp .eql 25 (.slice (some a) n c) (.slice none 0 0)).run Tryd.prog W = .ok (.bool false) W := by kernel_rfl
/-- one set more behind a row of the call's own -/
theorem app_S {ops : Array Oper} {rest : List Oper} {o : Oper} {a : Act} {Q : Exit → Act → World → Prop} {w : World} (hgd : o.guard = none) (s x : Operand)
    (ho : o.op = .call { callee := .builtin .append, args := #[s, x], argTypes := #[25, 25] }) (base : Nat) (v : Value) (n : Nat) (vs : List Value) (hn : vs.length = n) (hs : a.eval s = v) (hown : w.ownsRow base 48 1 v n vs) (hv : v ≠ .slice none 0 0) (gs c : Nat) (sv : Value) (hx : a.eval x = .slice (some ⟨gs, 0, none⟩) 1 c)
    (hc : w.cell? ⟨gs, 0, none⟩ = some sv) (hsl : IsSl sv) (hl : n ≤ 2000000) (hbase : base ≤ w.heap.size)
    (h : ∀ g cap w', n + 1 ≤ cap → w'.ownsRow base 48 1 (.slice (some ⟨g, 0, none⟩) (n + 1) cap) (n + 1) (vs ++ [sv]) → KT 59 w w' → Below base w w' → wpList Tryd.prog ops Q rest (a.put o.dst (.slice (some ⟨g, 0, none⟩) (n + 1) cap)) w') : wpList Tryd.prog ops Q (o :: rest) a w := by
  obtain ⟨i0, hi, hz0, hz1, hz2⟩ := info_parts sinfo51
  subst hn
  refine wpList_append_own w hgd s x 25 ho base 48 i0 (.slice none 0 0) 1 24 Tryd.underlying25 hi hz0 hz1 hz2 rfl (by decide) v vs.length vs hs hown ⟨gs, 0, none⟩ 1 c [sv] hx rfl ?_ ?_ (by unfold maxLen; omega) (by omega) hbase (fun v' w' h2 h3 h4 => ?_)
  · intro j u hj
    cases j with
    | zero => simp at hj; subst hj; rw [add_zero_at]; exact hc
    | succ j => simp at hj
  · intro u hu
    simp at hu
    subst hu
    obtain ⟨A, n, c, rfl⟩ := hsl
    rfl
  · rcases h2.2 with ⟨e, _⟩ | ⟨g, cap, cur, e, _, _, hcp, _⟩
    · exact absurd (h4.1 e).1 hv
    · subst e
      exact h g cap w' hcp h2 (own_kt hown h3 (by decide)) ((Below.refl _ w).grown h3 hbase (fun k hk => (World.ownsRow.lt hown k hk).1))
theorem lentRow_nil (w : World) : Calls Tryd.prog 22 #[.slice none 0 0] w fun e w' => e = .returned (.slice none 0 0) ∧ w' = w := by
  have he := nil22
  go_enter Tryd.func22, Tryd.ntmps22
  go_wp2
  go_ret
  exact ⟨rfl, rfl⟩
/-- how far lentRow is -/
def LI2 (w : World) (svs : List Value) (ls : List (List (Int × Int))) (k : Nat) (va : Value) (W : World) : Prop :=
  ∃ ovs : List Value, ovs.length = k ∧ va ≠ .slice none 0 0 ∧ W.ownsRow w.heap.size 48 1 va k ovs ∧ (∀ (j : Nat) (h1 : j < ovs.length) (h2 : j < svs.length) (h3 : j < ls.length), LS W w.heap.size ovs[j] svs[j] ls[j]) ∧ Below w.heap.size w W
set_option maxHeartbeats 4000000 in
theorem lentRow_some (ad : Addr) (c : Nat) (svs : List Value) (ls : List (List (Int × Int))) (w : World) (hr : SRv w (.slice (some ad) ls.length c) svs ls) (hn : ls.length ≤ 1048576) (hs : ∀ l ∈ ls, l.length ≤ 1048576) :
    Calls Tryd.prog 22 #[.slice (some ad) ls.length c] w fun e w' => ∃ ov, e = .returned ov ∧ LR w' w.heap.size ov (.slice (some ad) ls.length c) svs ls ∧ Below w.heap.size w w' := by
  have he := some22
  obtain ⟨n, hnn⟩ : ∃ n, ls.length = n := ⟨_, rfl⟩
  have HN : Hid (ls.length = n) := hnn
  have HR : Hid (SRv w (.slice (some ad) n c) svs ls) := by rw [hnn] at hr; exact hr
  have HSm : Hid (∀ l ∈ ls, l.length ≤ 1048576) := hs
  rw [hnn] at hn ⊢
  have hnI : (n : Int) ≤ 1048576 := by omega
  have HS0 : Hid (LI2 w svs ls 0 (.slice (some ⟨w.heap.size, 0, none⟩) 0 0) (w.alloc (.cells #[] 48))) := ⟨[], rfl, (by intro e; cases e), ⟨rfl, .inr ⟨w.heap.size, 0, #[], rfl, Nat.le_refl _, heap_alloc_new w _, Nat.le_refl _, Nat.zero_le _, rfl, rfl⟩⟩, fun j h => by simp at h, (Below.refl _ w).alloc (Nat.le_refl _) _⟩
  clear hr hnn hs
  go_enter Tryd.func22, Tryd.ntmps22
  go_wp2
  go_loopw [3, 11] (fun sa vi wr => ∃ (va : Value) (k : Nat), va = sa ∧ vi = .int .i64 k ∧ k ≤ n ∧ Hid (LI2 w svs ls k va wr)) (fun _ vi _ => n - (intOf vi).toNat)
  case atStart => exact ⟨_, 0, rfl, rfl, Nat.zero_le _, HS0⟩
  case round =>
    obtain ⟨va, k, rfl, rfl, hk, HG⟩ := hrel
    have hpos : (0 : Int) ≤ (k : Int) := by omega
    have hkI : (k : Int) ≤ 1048576 := by omega
    clear HS0
    by_cases hlt : k < n
    · have hlt' : (k : Int) < (n : Int) := by omega
      have hkl : k < ls.length := by rw [HN.out]; exact hlt
      obtain ⟨ovs, g1, g2, g3, g4, g5⟩ := HG.out
      have hW := HR.out.below g5 (Nat.le_refl _)
      have hks : k < svs.length := by rw [hW.len]; exact hkl
      obtain ⟨a', c', e', _, hcl⟩ := hW.cell
      obtain ⟨gg, oo, ha', hcl2⟩ := hcl.resolve_left (fun e => by rw [e] at hkl; simp at hkl)
      injection e' with e1 e2 e3
      clear e2 e3
      rw [ha'] at e1
      injection e1 with e1
      subst e1
      have hck := hcl2 k hks
      have hel := hW.el k hks hkl
      obtain ⟨sa, sn, sc, hsv⟩ : IsSl svs[k] := hel.1.sl
      have HC : Hid (Calls Tryd.prog 34 #[svs[k]] wr fun e w' => ∃ ov, e = .returned ov ∧ LS w' wr.heap.size ov svs[k] ls[k] ∧ Below wr.heap.size wr w') := lentSet_any _ _ wr hel.1 hel.2 (HSm.out _ (List.getElem_mem hkl))
      have HSV : Hid (svs[k] = .slice sa sn sc) := hsv
      rw [hsv] at hck HC
      have HL : Hid (∀ ov, LS wr wr.heap.size ov (.slice sa sn sc) ls[k] → True) := fun _ _ => trivial
      clear hcl hcl2 hel hsv hW ha' HL
      go_wp2_with fail
      refine HC.out.mono ?_
      rintro e w4 ⟨ov, rfl, hLS, hb4⟩
      obtain ⟨oa, on, oc, hov⟩ := hLS.sl
      subst hov
      have HLS : Hid (LS w4 wr.heap.size (.slice oa on oc) svs[k] ls[k]) := by rw [HSV.out]; exact hLS
      have HP : Hid (∀ ob, (w4.alloc ob).ownsRow w.heap.size 48 1 va k ovs ∧ w.heap.size ≤ (w4.alloc ob).heap.size) := fun ob => ⟨ownsRow_below (ownsRow_below g3 hb4 (Nat.le_refl _)) ((Below.refl _ w4).alloc (Nat.le_refl _) ob) (Nat.le_refl _), by rw [World.size_alloc]; have := hb4.size; have := g5.size; omega⟩
      have HQ : Hid (∀ ob, Below w.heap.size w (w4.alloc ob) ∧ (∀ (j : Nat) (h1 : j < ovs.length) (h2 : j < svs.length) (h3 : j < ls.length), LS (w4.alloc ob) w.heap.size ovs[j] svs[j] ls[j])) := fun ob => ⟨(g5.trans (hb4.mono g5.size)).alloc (by have := hb4.size; have := g5.size; omega) ob, fun j a b c => ((g4 j a b c).below hb4 (Nat.le_refl _)).below ((Below.refl _ w4).alloc (Nat.le_refl _) ob) (Nat.le_refl _)⟩
      have HV : Hid (va ≠ .slice none 0 0) := g2
      have HOl : Hid (ovs.length = k) := g1
      have HSz : Hid (w.heap.size ≤ wr.heap.size) := g5.size
      clear hLS g1 g2 g3 g4 g5 hb4 HC HG
      go_wp2_with (at_builtin; go_must (refine app_S rfl _ _ rfl w.heap.size _ k ovs HOl.out rfl (HP.out _).1 HV.out _ _ (.slice oa on oc) rfl (cell_new rfl rfl) ⟨_, _, _, rfl⟩ (by omega) (HP.out _).2 ?_; intro gn cn w5 hcn hO5 hK5 hB5))
      go_roundw
      case rel =>
        refine ⟨_, k + 1, rfl, by simp, hlt, ovs ++ [.slice oa on oc], by simp [HOl.out], (by intro e; cases e), hO5, fun j h1 h2 h3 => ?_, (HQ.out _).1.trans hB5⟩
        by_cases hj : j < ovs.length
        · rw [List.getElem_append_left hj]
          exact ((HQ.out _).2 j hj h2 h3).kt hK5
        · have hj2 : j = k := by simp at h1; have := HOl.out; omega
          subst hj2
          have e2 : (ovs ++ [Value.slice oa on oc])[j]'h1 = .slice oa on oc := by simp [← HOl.out]
          rw [e2]
          exact ((HLS.out.le HSz.out).below ((Below.refl _ w4).alloc (Nat.le_refl _) _) (Nat.le_refl _)).kt hK5
      case measure => simp [intOf]; omega
    · have hge : ¬ (k : Int) < (n : Int) := by omega
      obtain rfl : k = n := by omega
      obtain ⟨ovs, g1, g2, g3, g4, g5⟩ := HG.out
      have HV : Hid (va ≠ .slice none 0 0) := g2
      have HSz : Hid (w.heap.size ≤ wr.heap.size) := g5.size
      have HOl : Hid (ovs.length = k) := g1
      have HP : Hid (∀ ob ob2, ((wr.alloc ob).alloc ob2).ownsRow w.heap.size 48 1 va k ovs ∧ w.heap.size ≤ ((wr.alloc ob).alloc ob2).heap.size ∧ Below w.heap.size w ((wr.alloc ob).alloc ob2) ∧ (∀ (j : Nat) (h1 : j < ovs.length) (h2 : j < svs.length) (h3 : j < ls.length), LS ((wr.alloc ob).alloc ob2) w.heap.size ovs[j] svs[j] ls[j])) := fun ob ob2 => by
        have hb : Below wr.heap.size wr ((wr.alloc ob).alloc ob2) := (((Grown.refl wr).alloc ob).alloc ob2).below
        exact ⟨ownsRow_below g3 hb (Nat.le_refl _), Nat.le_trans g5.size hb.size, g5.trans (hb.mono g5.size), fun j a b c => (g4 j a b c).below hb (Nat.le_refl _)⟩
      clear g1 g2 g3 g4 g5 HG
      have hcm : ∀ ob2, ((wr.alloc (.cells #[.int .i64 (-8), .int .i64 (-8)] 59)).alloc ob2).heap[wr.heap.size]? = some (.cells #[.int .i64 (-8), .int .i64 (-8)] 59 (0, 0)) := fun ob2 => by
        have h1 := heap_alloc_new wr (.cells #[.int .i64 (-8), .int .i64 (-8)] 59)
        exact (((Below.refl _ (wr.alloc (.cells #[.int .i64 (-8), .int .i64 (-8)] 59))).alloc (Nat.le_refl _) ob2).block wr.heap.size (by rw [World.size_alloc]; exact Nat.lt_succ_self _)).trans h1
      have HCM : Hid (∀ ob2, ((wr.alloc (.cells #[.int .i64 (-8), .int .i64 (-8)] 59)).alloc ob2).heap[wr.heap.size]? = some (.cells #[.int .i64 (-8), .int .i64 (-8)] 59 (0, 0))) := hcm
      clear hcm
      go_wp2_with (at_builtin; go_must (refine app_S rfl _ _ rfl w.heap.size _ k ovs HOl.out rfl (HP.out _ _).1 HV.out _ _ (.slice (some ⟨wr.heap.size, 0, none⟩) 1 1) rfl (cell_new (by simp) rfl) ⟨_, _, _, rfl⟩ (by omega) (HP.out _ _).2.1 ?_; intro gn cn w5 hcn hO5 hK5 hB5; have hcnI : (k : Int) ≤ (cn : Int) := (by omega)))
      go_ret
      refine ⟨_, rfl, .inr ⟨⟨ad, c, by rw [HN.out]⟩, gn, cn, ovs, wr.heap.size, by rw [HN.out]; rfl, by rw [HN.out]; exact hcn, by rw [HN.out]; exact HOl.out, by rw [HN.out]; exact hO5, ?_, HSz.out, fun j h1 h2 h3 => ((HP.out _ _).2.2.2 j h1 h2 h3).kt hK5⟩, (HP.out _ _).2.2.1.trans hB5⟩
      have := hK5 _ _ _ (HCM.out _)
      simp [World.cell?, this]
theorem lentRow_any (v : Value) (svs : List Value) (ls : List (List (Int × Int))) (w : World) (hr : SRv w v svs ls) (hn : ls.length ≤ 1048576) (hs : ∀ l ∈ ls, l.length ≤ 1048576) :
    Calls Tryd.prog 22 #[v] w fun e w' => ∃ ov, e = .returned ov ∧ LR w' w.heap.size ov v svs ls ∧ Below w.heap.size w w' := by
  rcases hr.nil with rfl | ⟨ad, n, c, rfl⟩
  · obtain rfl : ls = [] := by
      obtain ⟨a, c, e, _⟩ := hr.cell
      injection e with _ e2 _
      exact List.eq_nil_of_length_eq_zero e2.symm
    refine (lentRow_nil w).mono ?_
    rintro e w' ⟨rfl, rfl⟩
    exact ⟨_, rfl, .inl ⟨rfl, rfl, rfl⟩, Below.refl _ _⟩
  · obtain rfl : n = ls.length := by
      obtain ⟨a, c, e, _⟩ := hr.cell
      injection e with _ e2 _
    exact lentRow_some ad c svs ls w hr hn hs
set_option maxHeartbeats 2000000 in
theorem stillRow_nil (w : World) : Calls Tryd.prog 29 #[.slice none 0 0, .slice none 0 0] w fun e w' => e = .returned (.bool true) ∧ Grown w w' := by
  have he := nil22
  go_enter Tryd.func29, Tryd.ntmps29
  go_wp2
  go_loopw [14] (fun vi wr => vi = .int .i64 0 ∧ wr = w) (fun _ _ => 0)
  case atStart => exact ⟨rfl, rfl⟩
  case round =>
    obtain ⟨rfl, rfl⟩ := hrel
    go_wp2
    go_ret
    exact ⟨rfl, Grown.refl _⟩
set_option maxHeartbeats 4000000 in
theorem stillRow_some (g gm cap : Nat) (ad : Addr) (c base : Nat) (ovs svs : List Value) (ls : List (List (Int × Int))) (w : World) (hr : SRv w (.slice (some ad) ls.length c) svs ls) (hc : ls.length + 1 ≤ cap) (hol : ovs.length = ls.length)
    (ho : w.ownsRow base 48 1 (.slice (some ⟨g, 0, none⟩) (ls.length + 1) cap) (ls.length + 1) (ovs ++ [.slice (some ⟨gm, 0, none⟩) 1 1])) (hm : w.cell? ⟨gm, 0, none⟩ = some (.int .i64 (-8))) (hL : ∀ (j : Nat) (h1 : j < ovs.length) (h2 : j < svs.length) (h3 : j < ls.length), LS w base ovs[j] svs[j] ls[j]) (hn : ls.length ≤ 1048576) (hs : ∀ l ∈ ls, l.length ≤ 1048576) :
    Calls Tryd.prog 29 #[.slice (some ⟨g, 0, none⟩) ls.length cap, .slice (some ad) ls.length c] w fun e w' => e = .returned (.bool true) ∧ Grown w w' := by
  have he := some22
  obtain ⟨n, hnn⟩ : ∃ n, ls.length = n := ⟨_, rfl⟩
  have HN : Hid (ls.length = n) := hnn
  have HR : Hid (SRv w (.slice (some ad) n c) svs ls) := by rw [hnn] at hr; exact hr
  have HSm : Hid (∀ l ∈ ls, l.length ≤ 1048576) := hs
  have HL : Hid (∀ (j : Nat) (h1 : j < ovs.length) (h2 : j < svs.length) (h3 : j < ls.length), LS w base ovs[j] svs[j] ls[j]) := hL
  have HOc : Hid (∀ (j : Nat) (h1 : j < ovs.length), w.cell? ⟨g, j, none⟩ = some ovs[j]) := fun j h1 => own_cell ho (by rw [List.getElem?_append_left h1]; exact List.getElem?_eq_getElem h1)
  have HOl : Hid (ovs.length = n) := by rw [← hnn]; exact hol
  have HMk : Hid (w.cell? ⟨g, n, none⟩ = some (.slice (some ⟨gm, 0, none⟩) 1 1) ∧ w.cell? ⟨gm, 0, none⟩ = some (.int .i64 (-8))) := ⟨own_cell ho (by rw [← hnn, ← hol]; simp), hm⟩
  rw [hnn] at hn hc ⊢
  have hnI : (n : Int) ≤ 1048576 := by omega
  have hcI : (n : Int) + 1 ≤ (cap : Int) := by omega
  have hm := mixed
  clear hr hnn hs hL ho hol
  go_enter Tryd.func29, Tryd.ntmps29
  go_wp2
  go_loopw [14] (fun vi wr => ∃ k : Nat, vi = .int .i64 k ∧ k ≤ n ∧ Grown w wr) (fun vi _ => n - (intOf vi).toNat)
  case atStart => exact ⟨0, rfl, by omega, Grown.refl _⟩
  case round =>
    obtain ⟨k, rfl, hk, hG⟩ := hrel
    have hpos : (0 : Int) ≤ (k : Int) := by omega
    by_cases hlt : k < n
    · as_aux_lemma =>
        have hlt' : (k : Int) < (n : Int) := by omega
        have hkl : k < ls.length := by rw [HN.out]; exact hlt
        have hko : k < ovs.length := by rw [HOl.out]; exact hlt
        have hW := HR.out.grown hG
        have hks : k < svs.length := by rw [hW.len]; exact hkl
        obtain ⟨a', c', e', _, hcl⟩ := hW.cell
        obtain ⟨gg, oo, ha', hcl2⟩ := hcl.resolve_left (fun e => by rw [e] at hkl; simp at hkl)
        injection e' with e1 e2 e3
        clear e2 e3
        rw [ha'] at e1
        injection e1 with e1
        subst e1
        have d2 := hcl2 k hks
        have d1 := hG.cellv (HOc.out k hko)
        have hLk := (HL.out k hko hks hkl).below hG.below (Nat.le_refl _)
        have hel := hW.el k hks hkl
        have HC : Hid (∀ W, Grown wr W → Calls Tryd.prog 43 #[ovs[k], svs[k]] W fun e w' => e = .returned (.bool true) ∧ Grown W w') := fun W hW2 => stillSet_any _ _ base ls[k] W (hLk.below hW2.below (Nat.le_refl _)) (hel.1.grown hW2) (HSm.out _ (List.getElem_mem hkl))
        obtain ⟨sa, sn, sc, hsv⟩ : IsSl svs[k] := hel.1.sl
        obtain ⟨ta, tn, tc, hov⟩ : IsSl ovs[k] := hLk.sl
        rw [hsv] at d2 HC
        rw [hov] at d1 HC
        have f1 : ∀ m os, (Go.Sort.grow (wr.drewN m) os).cell? ⟨g, k, none⟩ = some (.slice ta tn tc) := fun m os => ((Grown.refl _).quiet m os).cellv d1
        have f2 : ∀ m os, (Go.Sort.grow (wr.drewN m) os).cell? ⟨gg, oo + k, none⟩ = some (.slice sa sn sc) := fun m os => ((Grown.refl _).quiet m os).cellv d2
        clear d1 d2 hcl hcl2 hel hsv hov hW hLk ha'
        go_wp2
        refine wp_region_quiet_grown hm (by kernel_rfl) ?_
        repeat (go_big_quiet_step ((go_at_call 43; exact grown_of (HC.out _ ((Grown.refl _).quiet _ _)))))
        refine wpQuiet_nil ?_
        intro _ hw'
        obtain ⟨⟨nq, osq⟩, hw''⟩ := hw'
        subst hw''
        go_wp2
        exact ⟨⟨k + 1, by go_num, by omega, hG.quiet _ _⟩, by simp [intOf]; omega⟩
    · as_aux_lemma =>
        have hge : ¬ (k : Int) < (n : Int) := by omega
        have m0 := hG.cellv HMk.out.1
        have m1 := hG.cellv HMk.out.2
        go_wp2
        go_ret
        exact ⟨rfl, hG⟩
theorem stillRow_any (ov v : Value) (base : Nat) (svs : List Value) (ls : List (List (Int × Int))) (w : World) (h : LR w base ov v svs ls) (hr : SRv w v svs ls) (hn : ls.length ≤ 1048576) (hs : ∀ l ∈ ls, l.length ≤ 1048576) : Calls Tryd.prog 29 #[ov, v] w fun e w' => e = .returned (.bool true) ∧ Grown w w' := by
  rcases h with ⟨rfl, rfl, _⟩ | ⟨⟨ad, c, rfl⟩, g, cap, ovs, gm, rfl, h3, h4, h5, h6, _, h7⟩
  · exact stillRow_nil w
  · exact stillRow_some g gm cap ad c base ovs svs ls w hr h3 h4 h5 h6 h7 hn hs
theorem KT.set {t : TypeId} (W : World) (B i : Nat) (v : Value) (h : ∀ cs m, W.heap[B]? ≠ some (.cells cs t m)) : KT t W (W.setCell ⟨B, i, none⟩ v) := fun b cs m hb => by
  have hne : B ≠ b := fun e => h cs m (e ▸ hb)
  show (W.heap.modify B _)[b]? = _
  rw [Array.getElem?_modify, if_neg hne]
  exact hb
theorem cells_setS {w : World} {g : Nat} {cur : Array Value} {t : TypeId} {j : Nat} {u : Value} (h : w.heap[g]? = some (.cells cur t (0, 0))) : (w.setCell ⟨g, j, none⟩ u).heap[g]? = some (.cells (cur.setIfInBounds j u) t (0, 0)) := by
  have hlt := (Array.getElem?_eq_some_iff.1 h).1
  have h' : w.heap[g] = .cells cur t (0, 0) := by simpa [Array.getElem?_eq_getElem hlt] using h
  show (w.heap.modify g _)[g]? = _
  rw [Array.getElem?_eq_getElem (by simpa using hlt), Array.getElem_modify_self, h']
  rfl
/-- a row of pieces that came in, value by value -/
structure PRv (w : World) (v : Value) (tvs : List Value) (ps : List Pc) : Prop where
  len : tvs.length = ps.length
  el : ∀ (j : Nat) (h1 : j < tvs.length) (h2 : j < ps.length), Rs w tvs[j] ps[j].tl ∧ NilOk tvs[j]
  nil : NilOk v
  cell : ∃ a cap, v = .slice a ps.length cap ∧ ps.length ≤ cap ∧ (ps = [] ∨ ∃ g o, a = some ⟨g, o, none⟩ ∧ ∀ (j : Nat) (h : j < tvs.length) (h2 : j < ps.length), w.cell? ⟨g, o + j * 4, none⟩ = some (.int .i64 ps[j].k) ∧ w.cell? ⟨g, o + j * 4 + 1, none⟩ = some (.int .i64 ps[j].u) ∧ w.cell? ⟨g, o + j * 4 + 2, none⟩ = some (.int .i64 ps[j].y) ∧ w.cell? ⟨g, o + j * 4 + 3, none⟩ = some tvs[j])
theorem PRv.below {w w' : World} {n : Nat} {v : Value} {tvs : List Value} {ps : List Pc} (h : PRv w v tvs ps) (hb : Below n w w') (hn : w.heap.size ≤ n) : PRv w' v tvs ps := by
  obtain ⟨h1, h2, h3, a, cap, h4, h5, h6⟩ := h
  refine ⟨h1, fun j a b => ⟨(h2 j a b).1.below hb hn, (h2 j a b).2⟩, h3, a, cap, h4, h5, h6.imp id ?_⟩
  rintro ⟨g, o, e, h⟩
  refine ⟨g, o, e, fun j hj hj2 => ?_⟩
  obtain ⟨k0, k1, k2, k3⟩ := h j hj hj2
  exact ⟨cell_below k0 hb hn, cell_below k1 hb hn, cell_below k2 hb hn, cell_below k3 hb hn⟩
theorem PRv.grown {w w' : World} {v : Value} {tvs : List Value} {ps : List Pc} (h : PRv w v tvs ps) (k : Grown w w') : PRv w' v tvs ps := h.below k.below (Nat.le_refl _)
theorem PRv.pr {w : World} {v : Value} {tvs : List Value} {ps : List Pc} (h : PRv w v tvs ps) : PR w v ps := by
  obtain ⟨h1, h2, _, a, cap, h4, h5, h6⟩ := h
  refine ⟨a, cap, h4, h5, h6.imp id ?_⟩
  rintro ⟨g, o, e, h⟩
  refine ⟨g, o, e, fun j hj => ?_⟩
  obtain ⟨k0, k1, k2, k3⟩ := h j (by omega) hj
  exact ⟨tvs[j]'(by omega), k0, k1, k2, k3, (h2 j (by omega) hj).1⟩
def fp1 (e : Pc × Value) : List Value := [.int .i64 e.1.k, .int .i64 e.1.u, .int .i64 e.1.y, e.2]
def fp (l : List (Pc × Value)) : List Value := l.flatMap fp1
theorem fp_length (l : List (Pc × Value)) : (fp l).length = l.length * 4 := by
  induction l with
  | nil => rfl
  | cons a l ih => simp [fp, fp1] at ih ⊢; omega
theorem fp_append (l k : List (Pc × Value)) : fp (l ++ k) = fp l ++ fp k := by simp [fp]
theorem fp_at (l : List (Pc × Value)) {j : Nat} (hj : j < l.length) : (fp l)[j * 4]? = some (.int .i64 l[j].1.k) ∧ (fp l)[j * 4 + 1]? = some (.int .i64 l[j].1.u) ∧ (fp l)[j * 4 + 2]? = some (.int .i64 l[j].1.y) ∧ (fp l)[j * 4 + 3]? = some l[j].2 := by
  induction l generalizing j with
  | nil => simp at hj
  | cons a l ih =>
    cases j with
    | zero => simp [fp, fp1]
    | succ j =>
      have := ih (j := j) (by simpa using hj)
      rw [show (j + 1) * 4 = j * 4 + 1 + 1 + 1 + 1 by omega]
      simpa [fp, fp1] using this
def markP : Pc × Value := (⟨-9, 0, 0, []⟩, .slice none 0 0)
/-- a row of pieces that was lent -/
def LP (W : World) (base : Nat) (ov v : Value) (tvs : List Value) (ps : List Pc) : Prop :=
  (v = .slice none 0 0 ∧ ov = .slice none 0 0 ∧ ps = []) ∨ ((∃ ad c, v = .slice (some ad) ps.length c) ∧ ∃ g cap es, ov = .slice (some ⟨g, 0, none⟩) ps.length cap ∧ ps.length + 1 ≤ cap ∧ es.map Prod.fst = ps ∧ W.ownsRow base 62 4 (.slice (some ⟨g, 0, none⟩) (ps.length + 1) cap) (ps.length + 1) (fp (es ++ [markP])) ∧ ∀ (j : Nat) (h1 : j < es.length) (h2 : j < tvs.length), LS W base es[j].2 tvs[j] es[j].1.tl)
theorem LP.below {W W' : World} {base n : Nat} {ov v : Value} {tvs : List Value} {ps : List Pc} (h : LP W base ov v tvs ps) (hb : Below n W W') (hn : W.heap.size ≤ n) : LP W' base ov v tvs ps := by
  rcases h with h | ⟨h1, g, cap, es, h2, h3, h4, h5, h6⟩
  · exact .inl h
  · exact .inr ⟨h1, g, cap, es, h2, h3, h4, ownsRow_below h5 hb hn, fun j a b => (h6 j a b).below hb hn⟩
theorem LP.le {W : World} {base base' : Nat} {ov v : Value} {tvs : List Value} {ps : List Pc} (h : LP W base ov v tvs ps) (hb : base' ≤ base) : LP W base' ov v tvs ps := by
  rcases h with h | ⟨h1, g, cap, es, h2, h3, h4, h5, h6⟩
  · exact .inl h
  · exact .inr ⟨h1, g, cap, es, h2, h3, h4, Joins.ownsRow_le h5 hb, fun j a b => (h6 j a b).le hb⟩
theorem LP.sl {W : World} {base : Nat} {ov v : Value} {tvs : List Value} {ps : List Pc} (h : LP W base ov v tvs ps) : IsSl ov := by
  rcases h with ⟨_, h, _⟩ | ⟨_, g, cap, _, h, _⟩
  · exact ⟨_, _, _, h⟩
  · exact ⟨_, _, _, h⟩
theorem own_cell4 {W : World} {base : Nat} {e : TypeId} {n c g : Nat} {xs : List Value} (h : W.ownsRow base e 4 (.slice (some ⟨g, 0, none⟩) n c) n xs) {j : Nat} {u : Value} (hj : xs[j]? = some u) : W.cell? ⟨g, j, none⟩ = some u := by
  have := World.ownsRow.cells h rfl j u hj
  rwa [add_zero_at] at this
theorem lp_cells {W : World} {base g cap n : Nat} {es : List (Pc × Value)} {x : Pc × Value} (h : W.ownsRow base 62 4 (.slice (some ⟨g, 0, none⟩) n cap) n (fp (es ++ [x]))) {j : Nat} (hj : j < es.length) :
    W.cell? ⟨g, j * 4, none⟩ = some (.int .i64 es[j].1.k) ∧ W.cell? ⟨g, j * 4 + 1, none⟩ = some (.int .i64 es[j].1.u) ∧ W.cell? ⟨g, j * 4 + 2, none⟩ = some (.int .i64 es[j].1.y) ∧ W.cell? ⟨g, j * 4 + 3, none⟩ = some es[j].2 := by
  have := fp_at (es ++ [x]) (j := j) (by simp; omega)
  rw [List.getElem_append_left hj] at this
  exact ⟨own_cell4 h this.1, own_cell4 h this.2.1, own_cell4 h this.2.2.1, own_cell4 h this.2.2.2⟩
theorem LP.pr {W : World} {base : Nat} {ov v : Value} {tvs : List Value} {ps : List Pc} (h : LP W base ov v tvs ps) (hl : tvs.length = ps.length) : PR W ov ps := by
  rcases h with ⟨_, rfl, rfl⟩ | ⟨_, g, cap, es, rfl, h3, h4, h5, h7⟩
  · exact ⟨none, 0, rfl, Nat.le_refl _, .inl rfl⟩
  · refine ⟨_, cap, rfl, by omega, .inr ⟨g, 0, rfl, fun j hj => ?_⟩⟩
    have hje : j < es.length := by rw [← h4] at hj; simpa using hj
    obtain ⟨k0, k1, k2, k3⟩ := lp_cells h5 hje
    have e : ps[j] = es[j].1 := by subst h4; simp
    rw [e]
    rw [Nat.zero_add]
    exact ⟨es[j].2, k0, k1, k2, k3, (h7 j hje (by omega)).rs⟩
theorem pinfo53 : (Tryd.prog.info? 62).map (fun i => (i.zero, i.size, i.bytes)) = some (some (.agg #[.int .i64 0, .int .i64 0, .int .i64 0, .slice none 0 0]), 4, 48) := by kernel_rfl
theorem nil23 (W : World) : (binOp .eql 26 (.slice none 0 0) (.slice none 0 0)).run Tryd.prog W = .ok (.bool true) W := by kernel_rfl
theorem some23 (W : World) (a : Addr) (n c : Nat) : (binOp .eql 26 (.slice (some a) n c) (.slice none 0 0)).run Tryd.prog W = .ok (.bool false) W := by kernel_rfl
/-- one piece more behind a row of the call's own -/
theorem app_P {ops : Array Oper} {rest : List Oper} {o : Oper} {a : Act} {Q : Exit → Act → World → Prop} {w : World} (hgd : o.guard = none) (s x : Operand)
    (ho : o.op = .call { callee := .builtin .append, args := #[s, x], argTypes := #[26, 26] }) (base : Nat) (v : Value) (n : Nat) (es : List (Pc × Value)) (hn : es.length = n) (hs : a.eval s = v) (hown : w.ownsRow base 62 4 v n (fp es)) (hv : v ≠ .slice none 0 0) (gs c : Nat) (e : Pc × Value) (hx : a.eval x = .slice (some ⟨gs, 0, none⟩) 1 c)
    (hc0 : w.cell? ⟨gs, 0, none⟩ = some (.int .i64 e.1.k)) (hc1 : w.cell? ⟨gs, 1, none⟩ = some (.int .i64 e.1.u)) (hc2 : w.cell? ⟨gs, 2, none⟩ = some (.int .i64 e.1.y)) (hc3 : w.cell? ⟨gs, 3, none⟩ = some e.2) (hsl : IsSl e.2) (hl : n ≤ 2000000) (hbase : base ≤ w.heap.size)
    (h : ∀ g cap w', n + 1 ≤ cap → w'.ownsRow base 62 4 (.slice (some ⟨g, 0, none⟩) (n + 1) cap) (n + 1) (fp (es ++ [e])) → KT 59 w w' → Below base w w' → wpList Tryd.prog ops Q rest (a.put o.dst (.slice (some ⟨g, 0, none⟩) (n + 1) cap)) w') : wpList Tryd.prog ops Q (o :: rest) a w := by
  obtain ⟨i0, hi, hz0, hz1, hz2⟩ := info_parts pinfo53
  subst hn
  refine wpList_append_own w hgd s x 26 ho base 62 i0 (.agg #[.int .i64 0, .int .i64 0, .int .i64 0, .slice none 0 0]) 4 48 Tryd.underlying26 hi hz0 hz1 hz2 rfl (by decide) v es.length (fp es) hs hown ⟨gs, 0, none⟩ 1 c (fp1 e) hx rfl ?_ ?_ (by unfold maxLen; omega) (by omega) hbase (fun v' w' h2 h3 h4 => ?_)
  · intro j u hj
    rw [add_zero_at]
    match j, hj with
    | 0, hj => simp [fp1] at hj; subst hj; exact hc0
    | 1, hj => simp [fp1] at hj; subst hj; exact hc1
    | 2, hj => simp [fp1] at hj; subst hj; exact hc2
    | 3, hj => simp [fp1] at hj; subst hj; exact hc3
    | j + 4, hj => simp [fp1] at hj
  · intro u hu
    simp [fp1] at hu
    obtain ⟨A, n, c, hsv⟩ := hsl
    rcases hu with rfl | rfl | rfl | rfl
    · rfl
    · rfl
    · rfl
    · rw [hsv]; rfl
  · have h2' : w'.ownsRow base 62 4 v' (es.length + 1) (fp (es ++ [e])) := by
      rw [fp_append]
      simpa [fp] using h2
    rcases h2'.2 with ⟨e', _⟩ | ⟨g, cap, cur, e', _, _, hcp, _⟩
    · exact absurd (h4.1 e').1 hv
    · subst e'
      exact h g cap w' hcp h2' (own_kt hown h3 (by decide)) ((Below.refl _ w).grown h3 hbase (fun k hk => (World.ownsRow.lt hown k hk).1))
theorem lentPieces_nil (w : World) : Calls Tryd.prog 23 #[.slice none 0 0] w fun e w' => e = .returned (.slice none 0 0) ∧ w' = w := by
  have he := nil23
  go_enter Tryd.func23, Tryd.ntmps23
  go_wp2
  go_ret
  exact ⟨rfl, rfl⟩
/-- how far lentPieces is -/
def LI3 (w : World) (tvs : List Value) (ps : List Pc) (k : Nat) (va : Value) (W : World) : Prop :=
  ∃ es : List (Pc × Value), es.map Prod.fst = ps.take k ∧ va ≠ .slice none 0 0 ∧ W.ownsRow w.heap.size 62 4 va k (fp es) ∧ (∀ (j : Nat) (h1 : j < es.length) (h2 : j < tvs.length), LS W w.heap.size es[j].2 tvs[j] es[j].1.tl) ∧ Below w.heap.size w W
set_option maxHeartbeats 4000000 in
theorem lentPieces_some (ad : Addr) (c : Nat) (tvs : List Value) (ps : List Pc) (w : World) (hr : PRv w (.slice (some ad) ps.length c) tvs ps) (hn : ps.length ≤ 1048576) (hs : ∀ p ∈ ps, p.tl.length ≤ 1048576) :
    Calls Tryd.prog 23 #[.slice (some ad) ps.length c] w fun e w' => ∃ ov, e = .returned ov ∧ LP w' w.heap.size ov (.slice (some ad) ps.length c) tvs ps ∧ Below w.heap.size w w' := by
  have he := some23
  obtain ⟨n, hnn⟩ : ∃ n, ps.length = n := ⟨_, rfl⟩
  have HN : Hid (ps.length = n) := hnn
  have HR : Hid (PRv w (.slice (some ad) n c) tvs ps) := by rw [hnn] at hr; exact hr
  have HSm : Hid (∀ p ∈ ps, p.tl.length ≤ 1048576) := hs
  rw [hnn] at hn ⊢
  have hnI : (n : Int) ≤ 1048576 := by omega
  have HS0 : Hid (LI3 w tvs ps 0 (.slice (some ⟨w.heap.size, 0, none⟩) 0 0) (w.alloc (.cells #[] 62))) := ⟨[], rfl, (by intro e; cases e), ⟨rfl, .inr ⟨w.heap.size, 0, #[], rfl, Nat.le_refl _, heap_alloc_new w _, Nat.le_refl _, Nat.zero_le _, rfl, rfl⟩⟩, fun j h => by simp at h, (Below.refl _ w).alloc (Nat.le_refl _) _⟩
  clear hr hnn hs
  go_enter Tryd.func23, Tryd.ntmps23
  go_wp2
  go_loopw [3, 11] (fun sa vi wr => ∃ (va : Value) (k : Nat), va = sa ∧ vi = .int .i64 k ∧ k ≤ n ∧ Hid (LI3 w tvs ps k va wr)) (fun _ vi _ => n - (intOf vi).toNat)
  case atStart => exact ⟨_, 0, rfl, rfl, Nat.zero_le _, HS0⟩
  case round =>
    obtain ⟨va, k, rfl, rfl, hk, HG⟩ := hrel
    have hpos : (0 : Int) ≤ (k : Int) := by omega
    have hkI : (k : Int) ≤ 1048576 := by omega
    clear HS0
    by_cases hlt : k < n
    · have hlt' : (k : Int) < (n : Int) := by omega
      have hkl : k < ps.length := by rw [HN.out]; exact hlt
      obtain ⟨es, g1, g2, g3, g4, g5⟩ := HG.out
      have hW := HR.out.below g5 (Nat.le_refl _)
      have hks : k < tvs.length := by rw [hW.len]; exact hkl
      obtain ⟨a', c', e', _, hcl⟩ := hW.cell
      obtain ⟨gg, oo, ha', hcl2⟩ := hcl.resolve_left (fun e => by rw [e] at hkl; simp at hkl)
      injection e' with e1 e2 e3
      clear e2 e3
      rw [ha'] at e1
      injection e1 with e1
      subst e1
      obtain ⟨q0, q1, q2, q3⟩ := hcl2 k hks hkl
      have hel := hW.el k hks hkl
      obtain ⟨sa, sn, sc, hsv⟩ : IsSl tvs[k] := hel.1.sl
      have HSV : Hid (tvs[k] = .slice sa sn sc) := hsv
      have HC : Hid (∀ W, Grown wr W → Calls Tryd.prog 34 #[tvs[k]] W fun e w' => ∃ ov, e = .returned ov ∧ LS w' W.heap.size ov tvs[k] ps[k].tl ∧ Below W.heap.size W w') := fun W hG => lentSet_any _ _ W (hel.1.grown hG) hel.2 (HSm.out _ (List.getElem_mem hkl))
      rw [hsv] at q3 HC
      have HPk : Hid (ps.take (k + 1) = ps.take k ++ [ps[k]]) := List.take_succ_eq_append_getElem hkl
      obtain ⟨pk, hpk⟩ : ∃ pk, ps[k] = pk := ⟨_, rfl⟩
      rw [hpk] at q0 q1 q2 HC HPk
      obtain ⟨xk, xu, xy, xtl⟩ := pk
      simp only at q0 q1 q2 HC
      clear hcl hcl2 hel hsv hW ha' hpk
      go_wp2_with fail
      refine (HC.out _ ((Grown.refl _).alloc _)).mono ?_
      rintro e w4 ⟨ov, rfl, hLS, hb4⟩
      obtain ⟨oa, on, oc, hov⟩ := hLS.sl
      subst hov
      have hpb : w4.heap[wr.heap.size]? = some (.cells #[.int .i64 xk, .int .i64 xu, .int .i64 xy, .slice sa sn sc] 62 (0, 0)) := (hb4.block wr.heap.size (by rw [World.size_alloc]; exact Nat.lt_succ_self _)).trans (heap_alloc_new wr _)
      have f3 : w4.frozen? ⟨wr.heap.size, 3, none⟩ = false := by simp [World.frozen?, hpb]
      have p3 : w4.cell? ⟨wr.heap.size, 3, none⟩ = some (.slice sa sn sc) := by simp [World.cell?, hpb]
      have hpb2 : (w4.setCell ⟨wr.heap.size, 3, none⟩ (.slice oa on oc)).heap[wr.heap.size]? = some (.cells #[.int .i64 xk, .int .i64 xu, .int .i64 xy, .slice oa on oc] 62 (0, 0)) := by simpa using cells_setS (j := 3) (u := .slice oa on oc) hpb
      have s0 : (w4.setCell ⟨wr.heap.size, 3, none⟩ (.slice oa on oc)).cell? ⟨wr.heap.size, 0, none⟩ = some (.int .i64 xk) := by simp [World.cell?, hpb2]
      have s1 : (w4.setCell ⟨wr.heap.size, 3, none⟩ (.slice oa on oc)).cell? ⟨wr.heap.size, 1, none⟩ = some (.int .i64 xu) := by simp [World.cell?, hpb2]
      have s2 : (w4.setCell ⟨wr.heap.size, 3, none⟩ (.slice oa on oc)).cell? ⟨wr.heap.size, 2, none⟩ = some (.int .i64 xy) := by simp [World.cell?, hpb2]
      have s3 : (w4.setCell ⟨wr.heap.size, 3, none⟩ (.slice oa on oc)).cell? ⟨wr.heap.size, 3, none⟩ = some (.slice oa on oc) := by simp [World.cell?, hpb2]
      have hK : KT 59 w4 (w4.setCell ⟨wr.heap.size, 3, none⟩ (.slice oa on oc)) := KT.set w4 _ _ _ (fun cs m e => by rw [hpb] at e; cases e)
      have hB4 : Below wr.heap.size wr w4 := ((Below.refl _ wr).alloc (Nat.le_refl _) _).trans (hb4.mono (by simp))
      have hB5 : Below wr.heap.size wr (w4.setCell ⟨wr.heap.size, 3, none⟩ (.slice oa on oc)) := hB4.setCell (p := ⟨wr.heap.size, 3, none⟩) (Nat.le_refl _) _
      have HLS : Hid (LS (w4.setCell ⟨wr.heap.size, 3, none⟩ (.slice oa on oc)) w.heap.size (.slice oa on oc) tvs[k] xtl) := by
        rw [HSV.out]
        exact (hLS.le (by have := g5.size; simp; omega)).kt hK
      obtain ⟨W5, hW5⟩ : ∃ W5, w4.setCell ⟨wr.heap.size, 3, none⟩ (.slice oa on oc) = W5 := ⟨_, rfl⟩
      rw [hW5] at hB5 HLS
      have HP : Hid (∀ ob, (W5.alloc ob).ownsRow w.heap.size 62 4 va k (fp es) ∧ w.heap.size ≤ (W5.alloc ob).heap.size ∧ Below w.heap.size w (W5.alloc ob) ∧ (∀ (j : Nat) (h1 : j < es.length) (h2 : j < tvs.length), LS (W5.alloc ob) w.heap.size es[j].2 tvs[j] es[j].1.tl) ∧ LS (W5.alloc ob) w.heap.size (.slice oa on oc) tvs[k] xtl) := fun ob => by
        have hb6 : Below wr.heap.size wr (W5.alloc ob) := hB5.alloc hB5.size ob
        exact ⟨ownsRow_below g3 hb6 (Nat.le_refl _), Nat.le_trans g5.size hb6.size, g5.trans (hb6.mono g5.size), fun j a b => (g4 j a b).below hb6 (Nat.le_refl _), HLS.out.below ((Below.refl _ W5).alloc (Nat.le_refl _) ob) (Nat.le_refl _)⟩
      have HV : Hid (va ≠ .slice none 0 0) := g2
      have HOl : Hid (es.length = k) := by
        have := congrArg List.length g1
        simp only [List.length_map, List.length_take] at this
        show _ = _
        omega
      have HE1 : Hid (es.map Prod.fst = ps.take k) := g1
      rw [hW5] at s0 s1 s2 s3
      have HW5 : Hid (w4.setCell ⟨wr.heap.size, 3, none⟩ (.slice oa on oc) = W5) := hW5
      clear hLS g1 g2 g3 g4 g5 hb4 HC HG hpb hpb2 hK hB4 hB5 HLS
      go_wp2_with (at_builtin; go_must (refine app_P rfl _ _ rfl w.heap.size _ k es HOl.out rfl (HP.out _).1 HV.out _ _ (⟨xk, xu, xy, xtl⟩, .slice oa on oc) rfl (cell_new rfl rfl) (cell_new rfl rfl) (cell_new rfl rfl) (cell_new rfl rfl) ⟨_, _, _, rfl⟩ (by omega) (HP.out _).2.1 ?_; intro gn cn w5 hcn hO5 hK5 hB5))
      go_roundw
      case rel =>
        refine ⟨_, k + 1, rfl, by simp, hlt, es ++ [(⟨xk, xu, xy, xtl⟩, .slice oa on oc)], ?_, (by intro e; cases e), hO5, fun j h1 h2 => ?_, (HP.out _).2.2.1.trans hB5⟩
        · rw [List.map_append, HE1.out, HPk.out]; rfl
        · by_cases hj : j < es.length
          · rw [List.getElem_append_left hj]
            exact ((HP.out _).2.2.2.1 j hj h2).kt hK5
          · have hj2 : j = k := by simp at h1; have := HOl.out; omega
            subst hj2
            have e2 : (es ++ [((⟨xk, xu, xy, xtl⟩ : Pc), Value.slice oa on oc)])[j]'h1 = (⟨xk, xu, xy, xtl⟩, .slice oa on oc) := by simp [← HOl.out]
            rw [e2]
            exact (HP.out _).2.2.2.2.kt hK5
      case measure => simp [intOf]; omega
    · have hge : ¬ (k : Int) < (n : Int) := by omega
      obtain rfl : k = n := by omega
      obtain ⟨es, g1, g2, g3, g4, g5⟩ := HG.out
      have HV : Hid (va ≠ .slice none 0 0) := g2
      rw [List.take_of_length_le (by rw [HN.out]; omega)] at g1
      have HE1 : Hid (es.map Prod.fst = ps) := g1
      have HOl : Hid (es.length = k) := by rw [← HN.out, ← g1]; simp [Hid]
      have HP : Hid (∀ ob, (wr.alloc ob).ownsRow w.heap.size 62 4 va k (fp es) ∧ w.heap.size ≤ (wr.alloc ob).heap.size ∧ Below w.heap.size w (wr.alloc ob) ∧ (∀ (j : Nat) (h1 : j < es.length) (h2 : j < tvs.length), LS (wr.alloc ob) w.heap.size es[j].2 tvs[j] es[j].1.tl)) := fun ob => by
        have hb : Below wr.heap.size wr (wr.alloc ob) := ((Grown.refl wr).alloc ob).below
        exact ⟨ownsRow_below g3 hb (Nat.le_refl _), Nat.le_trans g5.size hb.size, g5.trans (hb.mono g5.size), fun j a b => (g4 j a b).below hb (Nat.le_refl _)⟩
      clear g1 g2 g3 g4 g5 HG
      go_wp2_with (at_builtin; go_must (refine app_P rfl _ _ rfl w.heap.size _ k es HOl.out rfl (HP.out _).1 HV.out _ _ markP rfl (cell_new rfl rfl) (cell_new rfl rfl) (cell_new rfl rfl) (cell_new rfl rfl) ⟨_, _, _, rfl⟩ (by omega) (HP.out _).2.1 ?_; intro gn cn w5 hcn hO5 hK5 hB5; have hcnI : (k : Int) ≤ (cn : Int) := (by omega)))
      go_ret
      exact ⟨_, rfl, .inr ⟨⟨ad, c, by rw [HN.out]⟩, gn, cn, es, by rw [HN.out]; rfl, by rw [HN.out]; exact hcn, HE1.out, by rw [HN.out]; exact hO5, fun j h1 h2 => ((HP.out _).2.2.2 j h1 h2).kt hK5⟩, (HP.out _).2.2.1.trans hB5⟩
theorem lentPieces_any (v : Value) (tvs : List Value) (ps : List Pc) (w : World) (hr : PRv w v tvs ps) (hn : ps.length ≤ 1048576) (hs : ∀ p ∈ ps, p.tl.length ≤ 1048576) :
    Calls Tryd.prog 23 #[v] w fun e w' => ∃ ov, e = .returned ov ∧ LP w' w.heap.size ov v tvs ps ∧ Below w.heap.size w w' := by
  rcases hr.nil with rfl | ⟨ad, n, c, rfl⟩
  · obtain rfl : ps = [] := by
      obtain ⟨a, c, e, _⟩ := hr.cell
      injection e with _ e2 _
      exact List.eq_nil_of_length_eq_zero e2.symm
    refine (lentPieces_nil w).mono ?_
    rintro e w' ⟨rfl, rfl⟩
    exact ⟨_, rfl, .inl ⟨rfl, rfl, rfl⟩, Below.refl _ _⟩
  · obtain rfl : n = ps.length := by
      obtain ⟨a, c, e, _⟩ := hr.cell
      injection e with _ e2 _
    exact lentPieces_some ad c tvs ps w hr hn hs
set_option maxHeartbeats 2000000 in
theorem stillPieces_nil (w : World) : Calls Tryd.prog 30 #[.slice none 0 0, .slice none 0 0] w fun e w' => e = .returned (.bool true) ∧ Grown w w' := by
  have he := nil23
  go_enter Tryd.func30, Tryd.ntmps30
  go_wp2
  go_loopw [13] (fun vi wr => vi = .int .i64 0 ∧ wr = w) (fun _ _ => 0)
  case atStart => exact ⟨rfl, rfl⟩
  case round =>
    obtain ⟨rfl, rfl⟩ := hrel
    go_wp2
    go_ret
    exact ⟨rfl, Grown.refl _⟩
set_option maxHeartbeats 8000000 in
theorem stillPieces_some (g cap : Nat) (ad : Addr) (c base : Nat) (es : List (Pc × Value)) (tvs : List Value) (ps : List Pc) (w : World) (hr : PRv w (.slice (some ad) ps.length c) tvs ps) (hc : ps.length + 1 ≤ cap) (hes : es.map Prod.fst = ps)
    (ho : w.ownsRow base 62 4 (.slice (some ⟨g, 0, none⟩) (ps.length + 1) cap) (ps.length + 1) (fp (es ++ [markP]))) (hL : ∀ (j : Nat) (h1 : j < es.length) (h2 : j < tvs.length), LS w base es[j].2 tvs[j] es[j].1.tl) (hn : ps.length ≤ 1048576) (hs : ∀ p ∈ ps, p.tl.length ≤ 1048576) :
    Calls Tryd.prog 30 #[.slice (some ⟨g, 0, none⟩) ps.length cap, .slice (some ad) ps.length c] w fun e w' => e = .returned (.bool true) ∧ Grown w w' := by
  have he := some23
  obtain ⟨n, hnn⟩ : ∃ n, ps.length = n := ⟨_, rfl⟩
  have hel0 : es.length = n := by rw [← hnn, ← hes]; simp
  have HN : Hid (ps.length = n) := hnn
  have HR : Hid (PRv w (.slice (some ad) n c) tvs ps) := by rw [hnn] at hr; exact hr
  have HSm : Hid (∀ p ∈ ps, p.tl.length ≤ 1048576) := hs
  have HL : Hid (∀ (j : Nat) (h1 : j < es.length) (h2 : j < tvs.length), LS w base es[j].2 tvs[j] es[j].1.tl) := hL
  have HOc : Hid (∀ (j : Nat) (h1 : j < es.length), w.cell? ⟨g, j * 4, none⟩ = some (.int .i64 es[j].1.k) ∧ w.cell? ⟨g, j * 4 + 1, none⟩ = some (.int .i64 es[j].1.u) ∧ w.cell? ⟨g, j * 4 + 2, none⟩ = some (.int .i64 es[j].1.y) ∧ w.cell? ⟨g, j * 4 + 3, none⟩ = some es[j].2) := fun j h1 => lp_cells ho h1
  have HOl : Hid (es.length = n) := hel0
  have HEs : Hid (es.map Prod.fst = ps) := hes
  have HMk : Hid (w.cell? ⟨g, n * 4, none⟩ = some (.int .i64 (-9))) := by
    have := fp_at (es ++ [markP]) (j := n) (by simp; omega)
    have h9 : (es ++ [markP])[n]'(by simp; omega) = markP := by simp [← hel0]
    rw [h9] at this
    exact own_cell4 ho this.1
  rw [hnn] at hn hc ⊢
  have hnI : (n : Int) ≤ 1048576 := by omega
  have hcI : (n : Int) + 1 ≤ (cap : Int) := by omega
  have hm := mixed
  clear hr hnn hs hL ho hes hel0
  go_enter Tryd.func30, Tryd.ntmps30
  go_wp2
  go_loopw [13] (fun vi wr => ∃ k : Nat, vi = .int .i64 k ∧ k ≤ n ∧ Grown w wr) (fun vi _ => n - (intOf vi).toNat)
  case atStart => exact ⟨0, rfl, by omega, Grown.refl _⟩
  case round =>
    obtain ⟨k, rfl, hk, hG⟩ := hrel
    have hpos : (0 : Int) ≤ (k : Int) := by omega
    by_cases hlt : k < n
    · as_aux_lemma =>
        have hlt' : (k : Int) < (n : Int) := by omega
        have hkl : k < ps.length := by rw [HN.out]; exact hlt
        have hko : k < es.length := by rw [HOl.out]; exact hlt
        have hW := HR.out.grown hG
        have hks : k < tvs.length := by rw [hW.len]; exact hkl
        obtain ⟨a', c', e', _, hcl⟩ := hW.cell
        obtain ⟨gg, oo, ha', hcl2⟩ := hcl.resolve_left (fun e => by rw [e] at hkl; simp at hkl)
        injection e' with e1 e2 e3
        clear e2 e3
        rw [ha'] at e1
        injection e1 with e1
        subst e1
        obtain ⟨q0, q1, q2, q3⟩ := hcl2 k hks hkl
        obtain ⟨p0, p1, p2, p3⟩ := HOc.out k hko
        have hep : es[k].1 = ps[k] := by have := HEs.out; subst this; simp
        have hLk := (HL.out k hko hks).below hG.below (Nat.le_refl _)
        have hel := hW.el k hks hkl
        rw [hep] at p0 p1 p2 hLk
        have HC : Hid (∀ W, Grown wr W → Calls Tryd.prog 43 #[es[k].2, tvs[k]] W fun e w' => e = .returned (.bool true) ∧ Grown W w') := fun W hW2 => stillSet_any _ _ base ps[k].tl W (hLk.below hW2.below (Nat.le_refl _)) (hel.1.grown hW2) (HSm.out _ (List.getElem_mem hkl))
        obtain ⟨sa, sn, sc, hsv⟩ : IsSl tvs[k] := hel.1.sl
        obtain ⟨ta, tn, tc, hov⟩ : IsSl es[k].2 := hLk.sl
        rw [hsv] at q3 HC
        rw [hov] at p3 HC
        generalize ps[k].k = xk at *
        generalize ps[k].u = xu at *
        generalize ps[k].y = xy at *
        have f0 : ∀ m os, (Go.Sort.grow (wr.drewN m) os).cell? ⟨g, k * 4, none⟩ = some (.int .i64 xk) := fun m os => (hG.quiet m os).cellv p0
        have f1 : ∀ m os, (Go.Sort.grow (wr.drewN m) os).cell? ⟨g, k * 4 + 1, none⟩ = some (.int .i64 xu) := fun m os => (hG.quiet m os).cellv p1
        have f2 : ∀ m os, (Go.Sort.grow (wr.drewN m) os).cell? ⟨g, k * 4 + 2, none⟩ = some (.int .i64 xy) := fun m os => (hG.quiet m os).cellv p2
        have f3 : ∀ m os, (Go.Sort.grow (wr.drewN m) os).cell? ⟨g, k * 4 + 3, none⟩ = some (.slice ta tn tc) := fun m os => (hG.quiet m os).cellv p3
        have h0 : ∀ m os, (Go.Sort.grow (wr.drewN m) os).cell? ⟨gg, oo + k * 4, none⟩ = some (.int .i64 xk) := fun m os => ((Grown.refl _).quiet m os).cellv q0
        have h1 : ∀ m os, (Go.Sort.grow (wr.drewN m) os).cell? ⟨gg, oo + k * 4 + 1, none⟩ = some (.int .i64 xu) := fun m os => ((Grown.refl _).quiet m os).cellv q1
        have h2 : ∀ m os, (Go.Sort.grow (wr.drewN m) os).cell? ⟨gg, oo + k * 4 + 2, none⟩ = some (.int .i64 xy) := fun m os => ((Grown.refl _).quiet m os).cellv q2
        have h3 : ∀ m os, (Go.Sort.grow (wr.drewN m) os).cell? ⟨gg, oo + k * 4 + 3, none⟩ = some (.slice sa sn sc) := fun m os => ((Grown.refl _).quiet m os).cellv q3
        clear p0 p1 p2 p3 q0 q1 q2 q3 hcl hcl2 hel hsv hov hW hLk ha' hep
        go_wp2
        refine wp_region_quiet_grown hm (by kernel_rfl) ?_
        repeat (go_big_quiet_step ((go_at_call 43; exact grown_of (HC.out _ ((Grown.refl _).quiet _ _)))))
        refine wpQuiet_nil ?_
        intro _ hw'
        obtain ⟨⟨nq, osq⟩, hw''⟩ := hw'
        subst hw''
        go_wp2
        exact ⟨⟨k + 1, by go_num, by omega, hG.quiet _ _⟩, by simp [intOf]; omega⟩
    · as_aux_lemma =>
        have hge : ¬ (k : Int) < (n : Int) := by omega
        have m0 := hG.cellv HMk.out
        go_wp2
        go_ret
        exact ⟨rfl, hG⟩
theorem stillPieces_any (ov v : Value) (base : Nat) (tvs : List Value) (ps : List Pc) (w : World) (h : LP w base ov v tvs ps) (hr : PRv w v tvs ps) (hn : ps.length ≤ 1048576) (hs : ∀ p ∈ ps, p.tl.length ≤ 1048576) : Calls Tryd.prog 30 #[ov, v] w fun e w' => e = .returned (.bool true) ∧ Grown w w' := by
  rcases h with ⟨rfl, rfl, _⟩ | ⟨⟨ad, c, rfl⟩, g, cap, es, rfl, h3, h4, h5, h6⟩
  · exact stillPieces_nil w
  · exact stillPieces_some g cap ad c base es tvs ps w hr h3 h4 h5 h6 hn hs
/-- a rule that came in, value by value -/
structure RRv (w : World) (av kv pv rv : Value) (sa sk sp tv : List Value) (r : Rl) : Prop where
  a : SRv w av sa r.ante
  k : SRv w kv sk r.key
  p : SRv w pv sp r.post
  r : PRv w rv tv r.res
theorem RRv.below {w w' : World} {n : Nat} {av kv pv rv : Value} {sa sk sp tv : List Value} {r : Rl} (h : RRv w av kv pv rv sa sk sp tv r) (hb : Below n w w') (hn : w.heap.size ≤ n) : RRv w' av kv pv rv sa sk sp tv r := ⟨h.a.below hb hn, h.k.below hb hn, h.p.below hb hn, h.r.below hb hn⟩
theorem RRv.grown {w w' : World} {av kv pv rv : Value} {sa sk sp tv : List Value} {r : Rl} (h : RRv w av kv pv rv sa sk sp tv r) (k : Grown w w') : RRv w' av kv pv rv sa sk sp tv r := h.below k.below (Nat.le_refl _)
theorem RRv.rr {w : World} {av kv pv rv : Value} {sa sk sp tv : List Value} {r : Rl} (h : RRv w av kv pv rv sa sk sp tv r) : RR w av kv pv rv r := ⟨h.a.sr, h.k.sr, h.p.sr, h.r.pr⟩
/-- a rule that was lent -/
structure LRl (W : World) (base : Nat) (oa ok op orr av kv pv rv : Value) (sa sk sp tv : List Value) (r : Rl) : Prop where
  a : LR W base oa av sa r.ante
  k : LR W base ok kv sk r.key
  p : LR W base op pv sp r.post
  r : LP W base orr rv tv r.res
section
variable {W W' : World} {base n : Nat} {oa ok op orr av kv pv rv : Value} {sa sk sp tv : List Value} {r : Rl}
theorem LRl.below (h : LRl W base oa ok op orr av kv pv rv sa sk sp tv r) (hb : Below n W W') (hn : W.heap.size ≤ n) : LRl W' base oa ok op orr av kv pv rv sa sk sp tv r := ⟨h.a.below hb hn, h.k.below hb hn, h.p.below hb hn, h.r.below hb hn⟩
theorem LRl.grown (h : LRl W base oa ok op orr av kv pv rv sa sk sp tv r) (k : Grown W W') : LRl W' base oa ok op orr av kv pv rv sa sk sp tv r := h.below k.below (Nat.le_refl _)
theorem LRl.le {base' : Nat} (h : LRl W base oa ok op orr av kv pv rv sa sk sp tv r) (hb : base' ≤ base) : LRl W base' oa ok op orr av kv pv rv sa sk sp tv r := ⟨h.a.le hb, h.k.le hb, h.p.le hb, h.r.le hb⟩
theorem LRl.rr {w : World} (h : LRl W base oa ok op orr av kv pv rv sa sk sp tv r) (hv : RRv w av kv pv rv sa sk sp tv r) : RR W oa ok op orr r := ⟨h.a.sr hv.a.len, h.k.sr hv.k.len, h.p.sr hv.p.len, h.r.pr hv.r.len⟩
end
/-- what lies from a block on stays -/
def Above (base : Nat) (W W' : World) : Prop := ∀ b, base ≤ b → W'.heap[b]? = W.heap[b]?
theorem above_set {W : World} {B j base : Nat} {u : Value} (h : B < base) : Above base W (W.setCell ⟨B, j, none⟩ u) := fun b hb => by
  show (W.heap.modify B _)[b]? = _
  rw [Array.getElem?_modify, if_neg (by omega)]
theorem ownsRow_above {W W' : World} {base : Nat} {e : TypeId} {size m : Nat} {v : Value} {xs : List Value} (h : W.ownsRow base e size v m xs) (k : Above base W W') : W'.ownsRow base e size v m xs := by
  refine ⟨h.1, ?_⟩
  rcases h.2 with h | ⟨g, cap, cur, e1, h1, h2, h3⟩
  · exact .inl h
  · exact .inr ⟨g, cap, cur, e1, h1, (k g h1).trans h2, h3⟩
theorem LS.above {W W' : World} {base : Nat} {ov sv : Value} {l : List (Int × Int)} (h : LS W base ov sv l) (k : Above base W W') : LS W' base ov sv l := by
  rcases h with h | ⟨h1, g, cap, h2, h3, h4⟩
  · exact .inl h
  · exact .inr ⟨h1, g, cap, h2, h3, ownsRow_above h4 k⟩
theorem LR.above {W W' : World} {base : Nat} {ov v : Value} {svs : List Value} {ls : List (List (Int × Int))} (h : LR W base ov v svs ls) (k : Above base W W') : LR W' base ov v svs ls := by
  rcases h with h | ⟨h1, g, cap, ovs, gm, h2, h3, h4, h5, h6, hgm, h7⟩
  · exact .inl h
  · refine .inr ⟨h1, g, cap, ovs, gm, h2, h3, h4, ownsRow_above h5 k, ?_, hgm, fun j a b c => (h7 j a b c).above k⟩
    have := k gm hgm
    simp only [World.cell?] at h6 ⊢
    rw [this]
    exact h6
theorem LP.above {W W' : World} {base : Nat} {ov v : Value} {tvs : List Value} {ps : List Pc} (h : LP W base ov v tvs ps) (k : Above base W W') : LP W' base ov v tvs ps := by
  rcases h with h | ⟨h1, g, cap, es, h2, h3, h4, h5, h6⟩
  · exact .inl h
  · exact .inr ⟨h1, g, cap, es, h2, h3, h4, ownsRow_above h5 k, fun j a b => (h6 j a b).above k⟩
theorem LRl.above {W W' : World} {base : Nat} {oa ok op orr av kv pv rv : Value} {sa sk sp tv : List Value} {r : Rl} (h : LRl W base oa ok op orr av kv pv rv sa sk sp tv r) (k : Above base W W') : LRl W' base oa ok op orr av kv pv rv sa sk sp tv r := ⟨h.a.above k, h.k.above k, h.p.above k, h.r.above k⟩
/-- the two blocks of lentRule -/
structure R3 (w : World) (bg en : Bool) (cu : Int) (x1 x2 x3 x5 : Value) (W : World) : Prop where
  bel : Below w.heap.size w W
  b1 : W.heap[w.heap.size]? = some (.cells #[.bool bg, x1, x2, x3, .bool en, x5, .int .i64 cu] 28 (0, 0))
  b2 : W.heap[w.heap.size + 1]? = some (.cells #[.bool false, .slice none 0 0, .slice none 0 0, .slice none 0 0, .bool false, .slice none 0 0, .int .i64 0] 28 (0, 0))
section
variable {w W W' : World} {bg en : Bool} {cu : Int} {x1 x2 x3 x5 : Value}
theorem set_other {W : World} {B b j : Nat} {u : Value} {o : Obj} (h : W.heap[b]? = some o) (hne : B ≠ b) : (W.setCell ⟨B, j, none⟩ u).heap[b]? = some o := by
  show (W.heap.modify B _)[b]? = _
  rw [Array.getElem?_modify, if_neg hne]
  exact h
theorem R3.call (h : R3 w bg en cu x1 x2 x3 x5 W) (hb : Below W.heap.size W W') : R3 w bg en cu x1 x2 x3 x5 W' :=
  ⟨h.bel.trans (hb.mono h.bel.size), (hb.block _ (Array.getElem?_eq_some_iff.1 h.b1).1).trans h.b1, (hb.block _ (Array.getElem?_eq_some_iff.1 h.b2).1).trans h.b2⟩
theorem R3.cells (h : R3 w bg en cu x1 x2 x3 x5 W) : RC W w.heap.size bg x1 x2 x3 en x5 cu := by constructor <;> simp [World.cell?, h.b1]
theorem R3.frozen (h : R3 w bg en cu x1 x2 x3 x5 W) (j : Nat) : W.frozen? ⟨w.heap.size, j, none⟩ = false := by simp [World.frozen?, h.b1]
theorem R3.set1 (h : R3 w bg en cu x1 x2 x3 x5 W) (x : Value) : R3 w bg en cu x x2 x3 x5 (W.setCell ⟨w.heap.size, 1, none⟩ x) :=
  ⟨h.bel.setCell (p := ⟨w.heap.size, 1, none⟩) (Nat.le_refl _) _, by simpa using cells_setS (j := 1) (u := x) h.b1, set_other h.b2 (by omega)⟩
theorem R3.set2 (h : R3 w bg en cu x1 x2 x3 x5 W) (x : Value) : R3 w bg en cu x1 x x3 x5 (W.setCell ⟨w.heap.size, 2, none⟩ x) :=
  ⟨h.bel.setCell (p := ⟨w.heap.size, 2, none⟩) (Nat.le_refl _) _, by simpa using cells_setS (j := 2) (u := x) h.b1, set_other h.b2 (by omega)⟩
theorem R3.set3 (h : R3 w bg en cu x1 x2 x3 x5 W) (x : Value) : R3 w bg en cu x1 x2 x x5 (W.setCell ⟨w.heap.size, 3, none⟩ x) :=
  ⟨h.bel.setCell (p := ⟨w.heap.size, 3, none⟩) (Nat.le_refl _) _, by simpa using cells_setS (j := 3) (u := x) h.b1, set_other h.b2 (by omega)⟩
theorem R3.set5 (h : R3 w bg en cu x1 x2 x3 x5 W) (x : Value) : R3 w bg en cu x1 x2 x3 x (W.setCell ⟨w.heap.size, 5, none⟩ x) :=
  ⟨h.bel.setCell (p := ⟨w.heap.size, 5, none⟩) (Nat.le_refl _) _, by simpa using cells_setS (j := 5) (u := x) h.b1, set_other h.b2 (by omega)⟩
end
theorem r3_start (w : World) (bg en : Bool) (cu : Int) (x1 x2 x3 x5 : Value) : R3 w bg en cu x1 x2 x3 x5 ((w.alloc (.cells #[.bool bg, x1, x2, x3, .bool en, x5, .int .i64 cu] 28)).alloc (.cells #[.bool false, .slice none 0 0, .slice none 0 0, .slice none 0 0, .bool false, .slice none 0 0, .int .i64 0] 28)) := by
  refine ⟨(((Grown.refl w).alloc _).alloc _).below, ?_, ?_⟩
  · exact (((Below.refl _ (w.alloc (.cells #[.bool bg, x1, x2, x3, .bool en, x5, .int .i64 cu] 28))).alloc (Nat.le_refl _) _).block _ (by simp)).trans (heap_alloc_new w _)
  · have := heap_alloc_new (w.alloc (.cells #[.bool bg, x1, x2, x3, .bool en, x5, .int .i64 cu] 28)) (.cells #[.bool false, .slice none 0 0, .slice none 0 0, .slice none 0 0, .bool false, .slice none 0 0, .int .i64 0] 28)
    rw [World.size_alloc] at this
    exact this
/-- how great a rule is that may be lent -/
structure Sm (r : Rl) : Prop where
  na : r.ante.length ≤ 1048576
  sa : ∀ l ∈ r.ante, l.length ≤ 1048576
  nk : r.key.length ≤ 1048576
  sk : ∀ l ∈ r.key, l.length ≤ 1048576
  np : r.post.length ≤ 1048576
  sp : ∀ l ∈ r.post, l.length ≤ 1048576
  nr : r.res.length ≤ 1048576
  sr : ∀ p ∈ r.res, p.tl.length ≤ 1048576
set_option maxHeartbeats 8000000 in
theorem lentRule_any (r : Rl) (av kv pv rv : Value) (sa sk sp tv : List Value) (w : World) (hr : RRv w av kv pv rv sa sk sp tv r) (hs : Sm r) :
    Calls Tryd.prog 9 #[.agg #[.bool r.bg, av, kv, pv, .bool r.en, rv, .int .i64 r.cu]] w fun e w' => ∃ oa ok op orr, e = .returned (.agg #[.bool r.bg, oa, ok, op, .bool r.en, orr, .int .i64 r.cu]) ∧ LRl w' w.heap.size oa ok op orr av kv pv rv sa sk sp tv r ∧ Below w.heap.size w w' := by
  have HA : Hid (∀ W, Below w.heap.size w W → Calls Tryd.prog 22 #[av] W fun e w' => ∃ ov, e = .returned ov ∧ LR w' W.heap.size ov av sa r.ante ∧ Below W.heap.size W w') := fun W hW => lentRow_any av sa r.ante W (hr.a.below hW (Nat.le_refl _)) hs.na hs.sa
  have HK : Hid (∀ W, Below w.heap.size w W → Calls Tryd.prog 22 #[kv] W fun e w' => ∃ ov, e = .returned ov ∧ LR w' W.heap.size ov kv sk r.key ∧ Below W.heap.size W w') := fun W hW => lentRow_any kv sk r.key W (hr.k.below hW (Nat.le_refl _)) hs.nk hs.sk
  have HP : Hid (∀ W, Below w.heap.size w W → Calls Tryd.prog 22 #[pv] W fun e w' => ∃ ov, e = .returned ov ∧ LR w' W.heap.size ov pv sp r.post ∧ Below W.heap.size W w') := fun W hW => lentRow_any pv sp r.post W (hr.p.below hW (Nat.le_refl _)) hs.np hs.sp
  have HR : Hid (∀ W, Below w.heap.size w W → Calls Tryd.prog 23 #[rv] W fun e w' => ∃ ov, e = .returned ov ∧ LP w' W.heap.size ov rv tv r.res ∧ Below W.heap.size W w') := fun W hW => lentPieces_any rv tv r.res W (hr.r.below hW (Nat.le_refl _)) hs.nr hs.sr
  obtain ⟨aa, an, ac, rfl⟩ := hr.rr.a.sl
  obtain ⟨ka, kn, kc, rfl⟩ := hr.rr.k.sl
  obtain ⟨pa, pn, pc, rfl⟩ := hr.rr.p.sl
  obtain ⟨ra, rn, rc, rfl⟩ := hr.rr.r.sl
  have P0 : Hid (R3 w r.bg r.en r.cu (.slice aa an ac) (.slice ka kn kc) (.slice pa pn pc) (.slice ra rn rc) _) := r3_start w r.bg r.en r.cu (.slice aa an ac) (.slice ka kn kc) (.slice pa pn pc) (.slice ra rn rc)
  clear hr hs
  go_enter Tryd.func9, Tryd.ntmps9
  go_wp2_with fail
  refine (HA.out _ P0.out.bel).mono ?_
  rintro e w1 ⟨oa, rfl, hLa, hb1⟩
  obtain ⟨oa1, oa2, oa3, rfl⟩ := hLa.sl
  have LA1 : Hid (LR w1 (w.heap.size + 2) (.slice oa1 oa2 oa3) (.slice aa an ac) sa r.ante) := hLa.le (by simp)
  have P1 : Hid (R3 w r.bg r.en r.cu (.slice aa an ac) (.slice ka kn kc) (.slice pa pn pc) (.slice ra rn rc) w1) := P0.out.call hb1
  clear hLa hb1 P0
  have c1 := P1.out.cells.c1
  have f1 := P1.out.frozen 1
  have Q1 : Hid (R3 w r.bg r.en r.cu (.slice oa1 oa2 oa3) (.slice ka kn kc) (.slice pa pn pc) (.slice ra rn rc) (w1.setCell ⟨w.heap.size, 1, none⟩ (.slice oa1 oa2 oa3))) := P1.out.set1 _
  have LA2 : Hid (LR (w1.setCell ⟨w.heap.size, 1, none⟩ (.slice oa1 oa2 oa3)) (w.heap.size + 2) (.slice oa1 oa2 oa3) (.slice aa an ac) sa r.ante) := LA1.out.above (above_set (by omega))
  have d2 := Q1.out.cells.c2
  clear P1 LA1
  go_wp2_with fail
  refine (HK.out _ Q1.out.bel).mono ?_
  rintro e w2 ⟨ok, rfl, hL, hb⟩
  obtain ⟨ok1, ok2, ok3, rfl⟩ := hL.sl
  have N1 : Hid (LR w2 (w.heap.size + 2) (.slice ok1 ok2 ok3) (.slice ka kn kc) sk r.key) := hL.le (by have := (Array.getElem?_eq_some_iff.1 Q1.out.b2).1; omega)
  have P2 : Hid (R3 w r.bg r.en r.cu (.slice oa1 oa2 oa3) (.slice ka kn kc) (.slice pa pn pc) (.slice ra rn rc) w2) := Q1.out.call hb
  have M10 : Hid (LR w2 (w.heap.size + 2) (.slice oa1 oa2 oa3) (.slice aa an ac) sa r.ante) := LA2.out.below hb (Nat.le_refl _)
  have c2 := P2.out.cells.c2
  have f2 := P2.out.frozen 2
  have Q2 : Hid (R3 w r.bg r.en r.cu (.slice oa1 oa2 oa3) (.slice ok1 ok2 ok3) (.slice pa pn pc) (.slice ra rn rc) (w2.setCell ⟨w.heap.size, 2, none⟩ (.slice ok1 ok2 ok3))) := P2.out.set2 _
  have S10 : Hid (LR (w2.setCell ⟨w.heap.size, 2, none⟩ (.slice ok1 ok2 ok3)) (w.heap.size + 2) (.slice oa1 oa2 oa3) (.slice aa an ac) sa r.ante) := M10.out.above (above_set (by omega))
  have S11 : Hid (LR (w2.setCell ⟨w.heap.size, 2, none⟩ (.slice ok1 ok2 ok3)) (w.heap.size + 2) (.slice ok1 ok2 ok3) (.slice ka kn kc) sk r.key) := N1.out.above (above_set (by omega))
  have d3 := Q2.out.cells.c3
  clear M10 N1 P2 Q1 hL hb LA2
  go_wp2_with fail
  refine (HP.out _ Q2.out.bel).mono ?_
  rintro e w3 ⟨op, rfl, hL, hb⟩
  obtain ⟨op1, op2, op3, rfl⟩ := hL.sl
  have N2 : Hid (LR w3 (w.heap.size + 2) (.slice op1 op2 op3) (.slice pa pn pc) sp r.post) := hL.le (by have := (Array.getElem?_eq_some_iff.1 Q2.out.b2).1; omega)
  have P3 : Hid (R3 w r.bg r.en r.cu (.slice oa1 oa2 oa3) (.slice ok1 ok2 ok3) (.slice pa pn pc) (.slice ra rn rc) w3) := Q2.out.call hb
  have M20 : Hid (LR w3 (w.heap.size + 2) (.slice oa1 oa2 oa3) (.slice aa an ac) sa r.ante) := S10.out.below hb (Nat.le_refl _)
  have M21 : Hid (LR w3 (w.heap.size + 2) (.slice ok1 ok2 ok3) (.slice ka kn kc) sk r.key) := S11.out.below hb (Nat.le_refl _)
  have c3 := P3.out.cells.c3
  have f3 := P3.out.frozen 3
  have Q3 : Hid (R3 w r.bg r.en r.cu (.slice oa1 oa2 oa3) (.slice ok1 ok2 ok3) (.slice op1 op2 op3) (.slice ra rn rc) (w3.setCell ⟨w.heap.size, 3, none⟩ (.slice op1 op2 op3))) := P3.out.set3 _
  have S20 : Hid (LR (w3.setCell ⟨w.heap.size, 3, none⟩ (.slice op1 op2 op3)) (w.heap.size + 2) (.slice oa1 oa2 oa3) (.slice aa an ac) sa r.ante) := M20.out.above (above_set (by omega))
  have S21 : Hid (LR (w3.setCell ⟨w.heap.size, 3, none⟩ (.slice op1 op2 op3)) (w.heap.size + 2) (.slice ok1 ok2 ok3) (.slice ka kn kc) sk r.key) := M21.out.above (above_set (by omega))
  have S22 : Hid (LR (w3.setCell ⟨w.heap.size, 3, none⟩ (.slice op1 op2 op3)) (w.heap.size + 2) (.slice op1 op2 op3) (.slice pa pn pc) sp r.post) := N2.out.above (above_set (by omega))
  have d4 := Q3.out.cells.c5
  clear M20 M21 N2 P3 Q2 hL hb S10 S11
  go_wp2_with fail
  refine (HR.out _ Q3.out.bel).mono ?_
  rintro e w4 ⟨or, rfl, hL, hb⟩
  obtain ⟨or1, or2, or3, rfl⟩ := hL.sl
  have N3 : Hid (LP w4 (w.heap.size + 2) (.slice or1 or2 or3) (.slice ra rn rc) tv r.res) := hL.le (by have := (Array.getElem?_eq_some_iff.1 Q3.out.b2).1; omega)
  have P4 : Hid (R3 w r.bg r.en r.cu (.slice oa1 oa2 oa3) (.slice ok1 ok2 ok3) (.slice op1 op2 op3) (.slice ra rn rc) w4) := Q3.out.call hb
  have M30 : Hid (LR w4 (w.heap.size + 2) (.slice oa1 oa2 oa3) (.slice aa an ac) sa r.ante) := S20.out.below hb (Nat.le_refl _)
  have M31 : Hid (LR w4 (w.heap.size + 2) (.slice ok1 ok2 ok3) (.slice ka kn kc) sk r.key) := S21.out.below hb (Nat.le_refl _)
  have M32 : Hid (LR w4 (w.heap.size + 2) (.slice op1 op2 op3) (.slice pa pn pc) sp r.post) := S22.out.below hb (Nat.le_refl _)
  have c4 := P4.out.cells.c5
  have f4 := P4.out.frozen 5
  have Q4 : Hid (R3 w r.bg r.en r.cu (.slice oa1 oa2 oa3) (.slice ok1 ok2 ok3) (.slice op1 op2 op3) (.slice or1 or2 or3) (w4.setCell ⟨w.heap.size, 5, none⟩ (.slice or1 or2 or3))) := P4.out.set5 _
  have S30 : Hid (LR (w4.setCell ⟨w.heap.size, 5, none⟩ (.slice or1 or2 or3)) (w.heap.size + 2) (.slice oa1 oa2 oa3) (.slice aa an ac) sa r.ante) := M30.out.above (above_set (by omega))
  have S31 : Hid (LR (w4.setCell ⟨w.heap.size, 5, none⟩ (.slice or1 or2 or3)) (w.heap.size + 2) (.slice ok1 ok2 ok3) (.slice ka kn kc) sk r.key) := M31.out.above (above_set (by omega))
  have S32 : Hid (LR (w4.setCell ⟨w.heap.size, 5, none⟩ (.slice or1 or2 or3)) (w.heap.size + 2) (.slice op1 op2 op3) (.slice pa pn pc) sp r.post) := M32.out.above (above_set (by omega))
  have S33 : Hid (LP (w4.setCell ⟨w.heap.size, 5, none⟩ (.slice or1 or2 or3)) (w.heap.size + 2) (.slice or1 or2 or3) (.slice ra rn rc) tv r.res) := N3.out.above (above_set (by omega))
  clear M30 M31 M32 N3 P4 Q3 hL hb S20 S21 S22
  obtain ⟨V, hV⟩ : ∃ V, w4.setCell ⟨w.heap.size, 5, none⟩ (.slice or1 or2 or3) = V := ⟨_, rfl⟩
  rw [hV] at Q4 S30 S31 S32 S33
  obtain ⟨e0, e1, e2, e3, e4, e5, e6⟩ := Q4.out.cells
  have v0 := Q4.out.b2
  have v1 : (V.setCell ⟨w.heap.size + 1, 0, none⟩ (.bool r.bg)).heap[w.heap.size + 1]? = some (.cells #[.bool r.bg, .slice none 0 0, .slice none 0 0, .slice none 0 0, .bool false, .slice none 0 0, .int .i64 0] 28 (0, 0)) := by simpa using cells_setS (j := 0) (u := .bool r.bg) v0
  have v2 : ((V.setCell ⟨w.heap.size + 1, 0, none⟩ (.bool r.bg)).setCell ⟨w.heap.size + 1, 1, none⟩ (.slice oa1 oa2 oa3)).heap[w.heap.size + 1]? = some (.cells #[.bool r.bg, .slice oa1 oa2 oa3, .slice none 0 0, .slice none 0 0, .bool false, .slice none 0 0, .int .i64 0] 28 (0, 0)) := by simpa using cells_setS (j := 1) (u := .slice oa1 oa2 oa3) v1
  have v3 : (((V.setCell ⟨w.heap.size + 1, 0, none⟩ (.bool r.bg)).setCell ⟨w.heap.size + 1, 1, none⟩ (.slice oa1 oa2 oa3)).setCell ⟨w.heap.size + 1, 2, none⟩ (.slice ok1 ok2 ok3)).heap[w.heap.size + 1]? = some (.cells #[.bool r.bg, .slice oa1 oa2 oa3, .slice ok1 ok2 ok3, .slice none 0 0, .bool false, .slice none 0 0, .int .i64 0] 28 (0, 0)) := by simpa using cells_setS (j := 2) (u := .slice ok1 ok2 ok3) v2
  have v4 : ((((V.setCell ⟨w.heap.size + 1, 0, none⟩ (.bool r.bg)).setCell ⟨w.heap.size + 1, 1, none⟩ (.slice oa1 oa2 oa3)).setCell ⟨w.heap.size + 1, 2, none⟩ (.slice ok1 ok2 ok3)).setCell ⟨w.heap.size + 1, 3, none⟩ (.slice op1 op2 op3)).heap[w.heap.size + 1]? = some (.cells #[.bool r.bg, .slice oa1 oa2 oa3, .slice ok1 ok2 ok3, .slice op1 op2 op3, .bool false, .slice none 0 0, .int .i64 0] 28 (0, 0)) := by simpa using cells_setS (j := 3) (u := .slice op1 op2 op3) v3
  have v5 : (((((V.setCell ⟨w.heap.size + 1, 0, none⟩ (.bool r.bg)).setCell ⟨w.heap.size + 1, 1, none⟩ (.slice oa1 oa2 oa3)).setCell ⟨w.heap.size + 1, 2, none⟩ (.slice ok1 ok2 ok3)).setCell ⟨w.heap.size + 1, 3, none⟩ (.slice op1 op2 op3)).setCell ⟨w.heap.size + 1, 4, none⟩ (.bool r.en)).heap[w.heap.size + 1]? = some (.cells #[.bool r.bg, .slice oa1 oa2 oa3, .slice ok1 ok2 ok3, .slice op1 op2 op3, .bool r.en, .slice none 0 0, .int .i64 0] 28 (0, 0)) := by simpa using cells_setS (j := 4) (u := .bool r.en) v4
  have v6 : ((((((V.setCell ⟨w.heap.size + 1, 0, none⟩ (.bool r.bg)).setCell ⟨w.heap.size + 1, 1, none⟩ (.slice oa1 oa2 oa3)).setCell ⟨w.heap.size + 1, 2, none⟩ (.slice ok1 ok2 ok3)).setCell ⟨w.heap.size + 1, 3, none⟩ (.slice op1 op2 op3)).setCell ⟨w.heap.size + 1, 4, none⟩ (.bool r.en)).setCell ⟨w.heap.size + 1, 5, none⟩ (.slice or1 or2 or3)).heap[w.heap.size + 1]? = some (.cells #[.bool r.bg, .slice oa1 oa2 oa3, .slice ok1 ok2 ok3, .slice op1 op2 op3, .bool r.en, .slice or1 or2 or3, .int .i64 0] 28 (0, 0)) := by simpa using cells_setS (j := 5) (u := .slice or1 or2 or3) v5
  have v7 : (((((((V.setCell ⟨w.heap.size + 1, 0, none⟩ (.bool r.bg)).setCell ⟨w.heap.size + 1, 1, none⟩ (.slice oa1 oa2 oa3)).setCell ⟨w.heap.size + 1, 2, none⟩ (.slice ok1 ok2 ok3)).setCell ⟨w.heap.size + 1, 3, none⟩ (.slice op1 op2 op3)).setCell ⟨w.heap.size + 1, 4, none⟩ (.bool r.en)).setCell ⟨w.heap.size + 1, 5, none⟩ (.slice or1 or2 or3)).setCell ⟨w.heap.size + 1, 6, none⟩ (.int .i64 r.cu)).heap[w.heap.size + 1]? = some (.cells #[.bool r.bg, .slice oa1 oa2 oa3, .slice ok1 ok2 ok3, .slice op1 op2 op3, .bool r.en, .slice or1 or2 or3, .int .i64 r.cu] 28 (0, 0)) := by simpa using cells_setS (j := 6) (u := .int .i64 r.cu) v6
  have g0 : V.cell? ⟨w.heap.size + 1, 0, none⟩ = some (.bool false) := by simp only [World.cell?, v0]; rfl
  have k0 : V.frozen? ⟨w.heap.size + 1, 0, none⟩ = false := by simp [World.frozen?, v0]
  have g1 : (V.setCell ⟨w.heap.size + 1, 0, none⟩ (.bool r.bg)).cell? ⟨w.heap.size + 1, 1, none⟩ = some (.slice none 0 0) := by simp only [World.cell?, v1]; rfl
  have k1 : (V.setCell ⟨w.heap.size + 1, 0, none⟩ (.bool r.bg)).frozen? ⟨w.heap.size + 1, 1, none⟩ = false := by simp [World.frozen?, v1]
  have g2 : ((V.setCell ⟨w.heap.size + 1, 0, none⟩ (.bool r.bg)).setCell ⟨w.heap.size + 1, 1, none⟩ (.slice oa1 oa2 oa3)).cell? ⟨w.heap.size + 1, 2, none⟩ = some (.slice none 0 0) := by simp only [World.cell?, v2]; rfl
  have k2 : ((V.setCell ⟨w.heap.size + 1, 0, none⟩ (.bool r.bg)).setCell ⟨w.heap.size + 1, 1, none⟩ (.slice oa1 oa2 oa3)).frozen? ⟨w.heap.size + 1, 2, none⟩ = false := by simp [World.frozen?, v2]
  have g3 : (((V.setCell ⟨w.heap.size + 1, 0, none⟩ (.bool r.bg)).setCell ⟨w.heap.size + 1, 1, none⟩ (.slice oa1 oa2 oa3)).setCell ⟨w.heap.size + 1, 2, none⟩ (.slice ok1 ok2 ok3)).cell? ⟨w.heap.size + 1, 3, none⟩ = some (.slice none 0 0) := by simp only [World.cell?, v3]; rfl
  have k3 : (((V.setCell ⟨w.heap.size + 1, 0, none⟩ (.bool r.bg)).setCell ⟨w.heap.size + 1, 1, none⟩ (.slice oa1 oa2 oa3)).setCell ⟨w.heap.size + 1, 2, none⟩ (.slice ok1 ok2 ok3)).frozen? ⟨w.heap.size + 1, 3, none⟩ = false := by simp [World.frozen?, v3]
  have g4 : ((((V.setCell ⟨w.heap.size + 1, 0, none⟩ (.bool r.bg)).setCell ⟨w.heap.size + 1, 1, none⟩ (.slice oa1 oa2 oa3)).setCell ⟨w.heap.size + 1, 2, none⟩ (.slice ok1 ok2 ok3)).setCell ⟨w.heap.size + 1, 3, none⟩ (.slice op1 op2 op3)).cell? ⟨w.heap.size + 1, 4, none⟩ = some (.bool false) := by simp only [World.cell?, v4]; rfl
  have k4 : ((((V.setCell ⟨w.heap.size + 1, 0, none⟩ (.bool r.bg)).setCell ⟨w.heap.size + 1, 1, none⟩ (.slice oa1 oa2 oa3)).setCell ⟨w.heap.size + 1, 2, none⟩ (.slice ok1 ok2 ok3)).setCell ⟨w.heap.size + 1, 3, none⟩ (.slice op1 op2 op3)).frozen? ⟨w.heap.size + 1, 4, none⟩ = false := by simp [World.frozen?, v4]
  have g5 : (((((V.setCell ⟨w.heap.size + 1, 0, none⟩ (.bool r.bg)).setCell ⟨w.heap.size + 1, 1, none⟩ (.slice oa1 oa2 oa3)).setCell ⟨w.heap.size + 1, 2, none⟩ (.slice ok1 ok2 ok3)).setCell ⟨w.heap.size + 1, 3, none⟩ (.slice op1 op2 op3)).setCell ⟨w.heap.size + 1, 4, none⟩ (.bool r.en)).cell? ⟨w.heap.size + 1, 5, none⟩ = some (.slice none 0 0) := by simp only [World.cell?, v5]; rfl
  have k5 : (((((V.setCell ⟨w.heap.size + 1, 0, none⟩ (.bool r.bg)).setCell ⟨w.heap.size + 1, 1, none⟩ (.slice oa1 oa2 oa3)).setCell ⟨w.heap.size + 1, 2, none⟩ (.slice ok1 ok2 ok3)).setCell ⟨w.heap.size + 1, 3, none⟩ (.slice op1 op2 op3)).setCell ⟨w.heap.size + 1, 4, none⟩ (.bool r.en)).frozen? ⟨w.heap.size + 1, 5, none⟩ = false := by simp [World.frozen?, v5]
  have g6 : ((((((V.setCell ⟨w.heap.size + 1, 0, none⟩ (.bool r.bg)).setCell ⟨w.heap.size + 1, 1, none⟩ (.slice oa1 oa2 oa3)).setCell ⟨w.heap.size + 1, 2, none⟩ (.slice ok1 ok2 ok3)).setCell ⟨w.heap.size + 1, 3, none⟩ (.slice op1 op2 op3)).setCell ⟨w.heap.size + 1, 4, none⟩ (.bool r.en)).setCell ⟨w.heap.size + 1, 5, none⟩ (.slice or1 or2 or3)).cell? ⟨w.heap.size + 1, 6, none⟩ = some (.int .i64 0) := by simp only [World.cell?, v6]; rfl
  have k6 : ((((((V.setCell ⟨w.heap.size + 1, 0, none⟩ (.bool r.bg)).setCell ⟨w.heap.size + 1, 1, none⟩ (.slice oa1 oa2 oa3)).setCell ⟨w.heap.size + 1, 2, none⟩ (.slice ok1 ok2 ok3)).setCell ⟨w.heap.size + 1, 3, none⟩ (.slice op1 op2 op3)).setCell ⟨w.heap.size + 1, 4, none⟩ (.bool r.en)).setCell ⟨w.heap.size + 1, 5, none⟩ (.slice or1 or2 or3)).frozen? ⟨w.heap.size + 1, 6, none⟩ = false := by simp [World.frozen?, v6]
  have HL : Hid (LRl (((((((V.setCell ⟨w.heap.size + 1, 0, none⟩ (.bool r.bg)).setCell ⟨w.heap.size + 1, 1, none⟩ (.slice oa1 oa2 oa3)).setCell ⟨w.heap.size + 1, 2, none⟩ (.slice ok1 ok2 ok3)).setCell ⟨w.heap.size + 1, 3, none⟩ (.slice op1 op2 op3)).setCell ⟨w.heap.size + 1, 4, none⟩ (.bool r.en)).setCell ⟨w.heap.size + 1, 5, none⟩ (.slice or1 or2 or3)).setCell ⟨w.heap.size + 1, 6, none⟩ (.int .i64 r.cu)) (w.heap.size + 2) (.slice oa1 oa2 oa3) (.slice ok1 ok2 ok3) (.slice op1 op2 op3) (.slice or1 or2 or3) (.slice aa an ac) (.slice ka kn kc) (.slice pa pn pc) (.slice ra rn rc) sa sk sp tv r) :=
    LRl.above (LRl.above (LRl.above (LRl.above (LRl.above (LRl.above (LRl.above ⟨S30.out, S31.out, S32.out, S33.out⟩ (above_set (by omega))) (above_set (by omega))) (above_set (by omega))) (above_set (by omega))) (above_set (by omega))) (above_set (by omega))) (above_set (by omega))
  have HBl : Hid (Below w.heap.size w (((((((V.setCell ⟨w.heap.size + 1, 0, none⟩ (.bool r.bg)).setCell ⟨w.heap.size + 1, 1, none⟩ (.slice oa1 oa2 oa3)).setCell ⟨w.heap.size + 1, 2, none⟩ (.slice ok1 ok2 ok3)).setCell ⟨w.heap.size + 1, 3, none⟩ (.slice op1 op2 op3)).setCell ⟨w.heap.size + 1, 4, none⟩ (.bool r.en)).setCell ⟨w.heap.size + 1, 5, none⟩ (.slice or1 or2 or3)).setCell ⟨w.heap.size + 1, 6, none⟩ (.int .i64 r.cu))) := (((((((Q4.out.bel.setCell (p := ⟨w.heap.size + 1, 0, none⟩) (Nat.le_succ _) _).setCell (p := ⟨w.heap.size + 1, 1, none⟩) (Nat.le_succ _) _).setCell (p := ⟨w.heap.size + 1, 2, none⟩) (Nat.le_succ _) _).setCell (p := ⟨w.heap.size + 1, 3, none⟩) (Nat.le_succ _) _).setCell (p := ⟨w.heap.size + 1, 4, none⟩) (Nat.le_succ _) _).setCell (p := ⟨w.heap.size + 1, 5, none⟩) (Nat.le_succ _) _).setCell (p := ⟨w.heap.size + 1, 6, none⟩) (Nat.le_succ _) _)
  have HC7 : Hid (RC (((((((V.setCell ⟨w.heap.size + 1, 0, none⟩ (.bool r.bg)).setCell ⟨w.heap.size + 1, 1, none⟩ (.slice oa1 oa2 oa3)).setCell ⟨w.heap.size + 1, 2, none⟩ (.slice ok1 ok2 ok3)).setCell ⟨w.heap.size + 1, 3, none⟩ (.slice op1 op2 op3)).setCell ⟨w.heap.size + 1, 4, none⟩ (.bool r.en)).setCell ⟨w.heap.size + 1, 5, none⟩ (.slice or1 or2 or3)).setCell ⟨w.heap.size + 1, 6, none⟩ (.int .i64 r.cu)) (w.heap.size + 1) r.bg (.slice oa1 oa2 oa3) (.slice ok1 ok2 ok3) (.slice op1 op2 op3) r.en (.slice or1 or2 or3) r.cu) := by constructor <;> (simp only [World.cell?, v7]; rfl)
  clear v0 v1 v2 v3 v4 v5 v6 v7 Q4 S30 S31 S32 S33
  go_wp2
  obtain ⟨t0, t1, t2, t3, t4, t5, t6⟩ := HC7.out
  exact ret_rl (p := 2) (B := w.heap.size + 1) rfl rfl t0 t1 t2 t3 t4 t5 t6 ⟨_, _, _, _, rfl, HL.out.le (by omega), HBl.out⟩
/-- a lent rule and the one that it was made of, in two blocks -/
structure R4 (w : World) (base : Nat) (r : Rl) (oa ok op orr av kv pv rv : Value) (sa sk sp tv : List Value) (W : World) : Prop where
  g : Grown w W
  l : LRl W base oa ok op orr av kv pv rv sa sk sp tv r
  v : RRv W av kv pv rv sa sk sp tv r
  ca : RC W w.heap.size r.bg oa ok op r.en orr r.cu
  cb : RC W (w.heap.size + 1) r.bg av kv pv r.en rv r.cu
theorem R4.grown {w : World} {base : Nat} {r : Rl} {oa ok op orr av kv pv rv : Value} {sa sk sp tv : List Value} {W W' : World} (h : R4 w base r oa ok op orr av kv pv rv sa sk sp tv W) (k : Grown W W') : R4 w base r oa ok op orr av kv pv rv sa sk sp tv W' :=
  ⟨h.g.trans k, h.l.grown k, h.v.grown k, h.ca.below k.below (Nat.le_refl _), h.cb.below k.below (Nat.le_refl _)⟩
theorem r4_start {w : World} {base : Nat} {r : Rl} {oa ok op orr av kv pv rv : Value} {sa sk sp tv : List Value} (hl : LRl w base oa ok op orr av kv pv rv sa sk sp tv r) (hv : RRv w av kv pv rv sa sk sp tv r) :
    R4 w base r oa ok op orr av kv pv rv sa sk sp tv ((w.alloc (.cells #[.bool r.bg, oa, ok, op, .bool r.en, orr, .int .i64 r.cu] 28)).alloc (.cells #[.bool r.bg, av, kv, pv, .bool r.en, rv, .int .i64 r.cu] 28)) := by
  have hg := ((Grown.refl w).alloc (.cells #[.bool r.bg, oa, ok, op, .bool r.en, orr, .int .i64 r.cu] 28)).alloc (.cells #[.bool r.bg, av, kv, pv, .bool r.en, rv, .int .i64 r.cu] 28)
  refine ⟨hg, hl.grown hg, hv.grown hg, (rc_new w _ _ _ _ _ _ _).below ((Grown.refl _).alloc _).below (Nat.le_refl _), ?_⟩
  have := rc_new (w.alloc (.cells #[.bool r.bg, oa, ok, op, .bool r.en, orr, .int .i64 r.cu] 28)) r.bg av kv pv r.en rv r.cu
  simpa using this
set_option maxHeartbeats 8000000 in
theorem stillRule_any (r : Rl) (base : Nat) (oa ok op orr av kv pv rv : Value) (sa sk sp tv : List Value) (w : World) (hl : LRl w base oa ok op orr av kv pv rv sa sk sp tv r) (hv : RRv w av kv pv rv sa sk sp tv r) (hs : Sm r) :
    Calls Tryd.prog 16 #[.agg #[.bool r.bg, oa, ok, op, .bool r.en, orr, .int .i64 r.cu], .agg #[.bool r.bg, av, kv, pv, .bool r.en, rv, .int .i64 r.cu]] w fun e w' => e = .returned (.bool true) ∧ Grown w w' := by
  have P0 : Hid (R4 w base r oa ok op orr av kv pv rv sa sk sp tv ((w.alloc (.cells #[.bool r.bg, oa, ok, op, .bool r.en, orr, .int .i64 r.cu] 28)).alloc (.cells #[.bool r.bg, av, kv, pv, .bool r.en, rv, .int .i64 r.cu] 28))) := r4_start hl hv
  have C1 : Hid (∀ W, Hid (R4 w base r oa ok op orr av kv pv rv sa sk sp tv W) → Calls Tryd.prog 29 #[oa, av] W fun e w' => e = .returned (.bool true) ∧ Hid (R4 w base r oa ok op orr av kv pv rv sa sk sp tv w')) := fun W p => (stillRow_any oa av base sa _ W p.out.l.a p.out.v.a hs.na hs.sa).mono fun e w' ⟨h1, h2⟩ => ⟨h1, p.out.grown h2⟩
  have C2 : Hid (∀ W, Hid (R4 w base r oa ok op orr av kv pv rv sa sk sp tv W) → Calls Tryd.prog 29 #[ok, kv] W fun e w' => e = .returned (.bool true) ∧ Hid (R4 w base r oa ok op orr av kv pv rv sa sk sp tv w')) := fun W p => (stillRow_any ok kv base sk _ W p.out.l.k p.out.v.k hs.nk hs.sk).mono fun e w' ⟨h1, h2⟩ => ⟨h1, p.out.grown h2⟩
  have C3 : Hid (∀ W, Hid (R4 w base r oa ok op orr av kv pv rv sa sk sp tv W) → Calls Tryd.prog 29 #[op, pv] W fun e w' => e = .returned (.bool true) ∧ Hid (R4 w base r oa ok op orr av kv pv rv sa sk sp tv w')) := fun W p => (stillRow_any op pv base sp _ W p.out.l.p p.out.v.p hs.np hs.sp).mono fun e w' ⟨h1, h2⟩ => ⟨h1, p.out.grown h2⟩
  have C4 : Hid (∀ W, Hid (R4 w base r oa ok op orr av kv pv rv sa sk sp tv W) → Calls Tryd.prog 30 #[orr, rv] W fun e w' => e = .returned (.bool true) ∧ Hid (R4 w base r oa ok op orr av kv pv rv sa sk sp tv w')) := fun W p => (stillPieces_any orr rv base tv _ W p.out.l.r p.out.v.r hs.nr hs.sr).mono fun e w' ⟨h1, h2⟩ => ⟨h1, p.out.grown h2⟩
  obtain ⟨aa1, aa2, aa3, rfl⟩ := hl.a.sl
  obtain ⟨ak1, ak2, ak3, rfl⟩ := hl.k.sl
  obtain ⟨ap1, ap2, ap3, rfl⟩ := hl.p.sl
  obtain ⟨ar1, ar2, ar3, rfl⟩ := hl.r.sl
  obtain ⟨ba1, ba2, ba3, rfl⟩ := hv.rr.a.sl
  obtain ⟨bk1, bk2, bk3, rfl⟩ := hv.rr.k.sl
  obtain ⟨bp1, bp2, bp3, rfl⟩ := hv.rr.p.sl
  obtain ⟨br1, br2, br3, rfl⟩ := hv.rr.r.sl
  clear hl hv hs
  go_enter Tryd.func16, Tryd.ntmps16
  go_wp2_with fail
  refine (C1.out _ P0).mono ?_
  rintro e w1 ⟨rfl, P1⟩
  clear P0
  obtain ⟨x0, x1, x2, x3, x4, x5, x6⟩ := P1.out.ca
  obtain ⟨y0, y1, y2, y3, y4, y5, y6⟩ := P1.out.cb
  go_wp2_with fail
  refine (C2.out _ P1).mono ?_
  rintro e w2 ⟨rfl, P2⟩
  clear x0 x1 x2 x3 x4 x5 x6 y0 y1 y2 y3 y4 y5 y6
  clear P1
  obtain ⟨x0, x1, x2, x3, x4, x5, x6⟩ := P2.out.ca
  obtain ⟨y0, y1, y2, y3, y4, y5, y6⟩ := P2.out.cb
  go_wp2_with fail
  refine (C3.out _ P2).mono ?_
  rintro e w3 ⟨rfl, P3⟩
  clear x0 x1 x2 x3 x4 x5 x6 y0 y1 y2 y3 y4 y5 y6
  clear P2
  obtain ⟨x0, x1, x2, x3, x4, x5, x6⟩ := P3.out.ca
  obtain ⟨y0, y1, y2, y3, y4, y5, y6⟩ := P3.out.cb
  go_wp2_with fail
  refine (C4.out _ P3).mono ?_
  rintro e w4 ⟨rfl, P4⟩
  clear x0 x1 x2 x3 x4 x5 x6 y0 y1 y2 y3 y4 y5 y6
  clear P3
  go_wp2
  go_ret
  exact ⟨rfl, P4.out.g⟩
end Go.Proofs
