/-
  Numbers that are lent, and what is written over.
-/
import Derived.RangeFuncNested
import Derived.RangeFuncBound
import Derived.RangeFuncCalls
import Derived.RangeFuncLeaves
import Derived.Shelf.Abstract
import Derived.Shelf.RegionOpen
import Derived.WalkKit
import Derived.WalkSpells
import Derived.WalkLawsBesides
import Derived.OwnWalkIn
import Derived.TacticsInMore
import Derived.LoopNIn
import Derived.LoopIn
import Derived.BigQuiet
import Derived.RegionIn
import Derived.Deep.QuietTactic
import Derived.Deep.RegionWith
import Derived.Lib.OthersKept
import Derived.Maps.AppendAt
import Derived.Lib.SmallJoins
import Derived.Shelf.SlSortCmp.QuietGrown
import Derived.Test.YtcfjdijmobgbpaaDoorWe
import Derived.Test.YtcfjdijmobgbpaaDoorXb
import Derived.Test.YtcfjdijmobgbpaaDoorQj
namespace Go.Proofs
open Go.RowKit Go.Shelf

set_option maxRecDepth 100000
attribute [local go_sem] Oper.semAt_some
attribute [local go_sem ↓] Go.wp_at_zero Go.wp_at_succ
/-- a row of numbers behind a row of the call's own -/
theorem app_I {ops : Array Oper} {rest : List Oper} {o : Oper} {a : Act} {Q : Exit → Act → World → Prop} {w : World} (hgd : o.guard = none) (s x : Operand) (t : TypeId)
    (ho : o.op = .call { callee := .builtin .append, args := #[s, x], argTypes := #[t, t] }) (ht : Tryd.prog.underlying t = some (.slice 3))
    (base : Nat) (v : Value) (l b k : List Int) (hk : l ++ b = k) (hs : a.eval s = v) (hown : OwnI w base v l) (hv : v ≠ .slice none 0 0) (ad : Addr) (m c : Nat) (hx : a.eval x = .slice (some ad) m c)
    (hr : IR w (.slice (some ad) m c) b) (hl : l.length + b.length ≤ 8796093022208) (hbase : base ≤ w.heap.size)
    (h : ∀ g N cap w', N = k.length → OwnI w' base (.slice (some ⟨g, 0, none⟩) N cap) k → Below base w w' → wpList Tryd.prog ops Q rest (a.put o.dst (.slice (some ⟨g, 0, none⟩) N cap)) w') : wpList Tryd.prog ops Q (o :: rest) a w := by
  subst hk
  obtain ⟨i0, hi, hz0, hz1, hz2⟩ := info_parts iinfo3
  obtain ⟨a', c', e, _, hb⟩ := hr
  injection e with e1 e2 e3
  subst e2
  refine wpList_append_own w hgd s x t ho base 3 i0 (.int .i64 0) 1 8 ht hi hz0 hz1 hz2 rfl (by decide) v l.length (ints l) hs hown ad b.length c (ints b) hx (by rw [ints_length, Nat.mul_one]) ?_ (ints_one _) (by unfold maxLen; omega) (by omega) hbase (fun v' w' h2 h3 h4 => ?_)
  · intro j u hj
    rcases hb with hb | ⟨g, o', e2, hR⟩
    · subst hb; simp [ints] at hj
    · rw [e2] at e1
      injection e1 with e1
      subst e1
      have hjl : j < b.length := by rw [← ints_length]; exact (List.getElem?_eq_some_iff.1 hj).1
      have hadd : (⟨g, o', none⟩ : Addr).add j = ⟨g, o' + j, none⟩ := by unfold Addr.add; split <;> simp_all
      rw [hadd, hR j hjl]
      have : (ints b)[j]? = some (.int .i64 b[j]) := by simp [ints, hjl]
      rw [this] at hj
      exact hj
  · have hO : OwnI w' base v' (l ++ b) := by
      unfold OwnI
      rw [List.length_append, ints_append]; exact h2
    rcases hO.2 with ⟨e, _⟩ | ⟨g, cap, cur, e, _, _, hcp, _⟩
    · exact absurd (h4.1 e).1 hv
    · subst e
      exact h g _ cap w' rfl hO ((Below.refl _ w).grown h3 hbase (fun k hk => (World.ownsRow.lt hown k hk).1))
theorem ir_leng {w : World} {a : Option Addr} {n c : Nat} {l : List Int} (h : IR w (.slice a n c) l) : n = l.length := by
  obtain ⟨a', c', e, _, _⟩ := h
  injection e with e1 e2 e3
theorem ir_addr {w : World} {a : Option Addr} {n c : Nat} {l : List Int} (h : IR w (.slice a n c) l) (h0 : l ≠ []) : ∃ g o, a = some ⟨g, o, none⟩ := by
  obtain ⟨a', c', e, _, h⟩ := h
  injection e with e1 e2 e3
  obtain ⟨g, o, h1, _⟩ := h.resolve_left h0
  exact ⟨g, o, e1.trans h1⟩
theorem own_twoI (w : World) (u : Int) : OwnI (w.alloc (.cells #[.int .i64 u, .int .i64 u] 3)) w.heap.size (.slice (some ⟨w.heap.size, 0, none⟩) 2 2) [u, u] :=
  NewI.own ⟨w.heap.size, rfl, Nat.le_refl _, heap_alloc_new _ _⟩ (by show 2 ≤ maxLen; decide)
theorem own_emptyI (w : World) : OwnI (w.alloc (.cells #[] 3)) w.heap.size (.slice (some ⟨w.heap.size, 0, none⟩) 0 0) [] :=
  NewI.own ⟨w.heap.size, rfl, Nat.le_refl _, heap_alloc_new _ _⟩ (by decide)
theorem below_up {b : Nat} {w w' : World} (h : Below b w w') (hb : b ≤ w.heap.size) (o : Obj) : Below b w (w'.alloc o) := h.trans ((Below.refl _ w').alloc (by have := h.size; omega) o)
theorem ir_nil (W : World) : IR W (.slice none 0 0) [] := ⟨none, 0, rfl, Nat.le_refl _, .inl rfl⟩
theorem cell_of {W : World} {B j : Nat} {cs : Array Value} {t : TypeId} {m : Nat × Nat} (h : W.heap[B]? = some (.cells cs t m)) : W.cell? ⟨B, j, none⟩ = cs[j]? := by
  simp [World.cell?, h]
theorem ir_two {W : World} {g : Nat} {a b : Int} (h : W.heap[g]? = some (.cells #[.int .i64 a, .int .i64 b] 3 (0, 0))) : IR W (.slice (some ⟨g, 0, none⟩) 2 2) [a, b] := by
  refine ⟨_, 2, rfl, Nat.le_refl _, .inr ⟨_, 0, rfl, fun j hj => ?_⟩⟩
  have hj2 : j = 0 ∨ j = 1 := by simp at hj; omega
  rcases hj2 with rfl | rfl
  · rw [cell_of h]; rfl
  · rw [cell_of h]; rfl
theorem size_up (W : World) (o : Obj) : (W.alloc o).heap.size = W.heap.size + 1 := Array.size_push _
theorem alloc_up {W : World} {o ob : Obj} {k : Nat} (h : W.heap[k]? = some ob) : (W.alloc o).heap[k]? = some ob := (((Grown.refl W).alloc o).below.block k (Array.getElem?_eq_some_iff.1 h).1).trans h
theorem Hid.mk' {p : Prop} (h : p) : Hid p := h
theorem cell_fst {W : World} {cs : Array Value} {t : TypeId} {j : Nat} {v : Value} (h : cs[j]? = some v) : (W.alloc (.cells cs t)).cell? ⟨W.heap.size, j, none⟩ = some v := (cell_of (heap_alloc_new _ _)).trans h

/-- numbers that were lent -/
def LIn (W : World) (base : Nat) (ov v : Value) (l : List Int) : Prop :=
  (v = .slice none 0 0 ∧ ov = .slice none 0 0 ∧ l = []) ∨ ((∃ ad c, v = .slice (some ad) l.length c) ∧ ∃ g cap, ov = .slice (some ⟨g, 0, none⟩) l.length cap ∧ l.length + 2 ≤ cap ∧ OwnI W base (.slice (some ⟨g, 0, none⟩) (l.length + 2) cap) (l ++ [-71, -72]))
/-- all blocks but one stay, if there is one -/
def ButO (x : Option Nat) (W W' : World) : Prop := ∀ b, some b ≠ x → ∀ o, W.heap[b]? = some o → W'.heap[b]? = some o
theorem LIn.but {x : Option Nat} {W W' : World} {base : Nat} {ov v : Value} {l : List Int} (h : LIn W base ov v l) (k : ButO x W W') (hx : ov.ownBlock = none ∨ ov.ownBlock ≠ x) : LIn W' base ov v l := by
  rcases h with h | ⟨h1, g, cap, e, hc, ho⟩
  · exact .inl h
  · refine .inr ⟨h1, g, cap, e, hc, ho.1, ?_⟩
    rcases ho.2 with ⟨e2, _⟩ | ⟨g', cap', cur, e2, k1, k2, k3⟩
    · cases e2
    · refine .inr ⟨g', cap', cur, e2, k1, k g' (fun e3 => ?_) _ k2, k3⟩
      injection e2 with e2 _ _
      injection e2 with e2
      injection e2 with e2
      rw [e] at hx
      rcases hx with hx | hx
      · cases hx
      · exact hx (by rw [← e3, ← e2]; rfl)
theorem LIn.below {W W' : World} {base n : Nat} {ov v : Value} {l : List Int} (h : LIn W base ov v l) (hb : Below n W W') (hn : W.heap.size ≤ n) : LIn W' base ov v l :=
  h.but (x := none) (fun b _ o ho => (hb.block b (Nat.lt_of_lt_of_le (Array.getElem?_eq_some_iff.1 ho).1 hn)).trans ho) (by cases ov.ownBlock <;> simp)
theorem LIn.le {W : World} {base base' : Nat} {ov v : Value} {l : List Int} (h : LIn W base ov v l) (hb : base' ≤ base) : LIn W base' ov v l := by
  rcases h with h | ⟨h1, g, cap, e, hc, ho⟩
  · exact .inl h
  · exact .inr ⟨h1, g, cap, e, hc, ho.le hb⟩
theorem LIn.sl {W : World} {base : Nat} {ov v : Value} {l : List Int} (h : LIn W base ov v l) : IsSl ov := by
  rcases h with ⟨_, e, _⟩ | ⟨_, g, cap, e, _⟩
  · exact ⟨_, _, _, e⟩
  · exact ⟨_, _, _, e⟩
theorem LIn.blk {W : World} {base : Nat} {ov v : Value} {l : List Int} (h : LIn W base ov v l) : ∀ b, ov.ownBlock = some b → base ≤ b ∧ ∃ cur, W.heap[b]? = some (.cells cur 3 (0, 0)) := by
  intro b hb
  rcases h with ⟨_, e, _⟩ | ⟨_, g, cap, e, hc, ho⟩
  · rw [e] at hb; cases hb
  · rw [e] at hb
    injection hb with hb
    change g = b at hb
    subst hb
    rcases ho.2 with ⟨e2, _⟩ | ⟨g', cap', cur, e2, k1, k2, k3⟩
    · cases e2
    · injection e2 with e2 _ _
      injection e2 with e2
      injection e2 with e2
      subst e2
      exact ⟨k1, cur, k2⟩
theorem LIn.ir {W : World} {base : Nat} {ov v : Value} {l : List Int} (h : LIn W base ov v l) : IR W ov l := by
  rcases h with ⟨_, rfl, rfl⟩ | ⟨_, g, cap, rfl, hc, ho⟩
  · exact ir_nil W
  · obtain ⟨a', c', e, h1, h2⟩ := ho.ir
    injection e with e1 e2 e3
    refine ⟨_, cap, rfl, by omega, ?_⟩
    rcases h2 with h2 | ⟨g', o', e4, h2⟩
    · have := congrArg List.length h2; simp at this
    · rw [← e1] at e4
      refine .inr ⟨g', o', e4, fun j hj => ?_⟩
      have := h2 j (by simp; omega)
      rw [List.getElem_append_left hj] at this
      exact this
theorem own_cap {W : World} {base g N c : Nat} {k : List Int} (h : OwnI W base (.slice (some ⟨g, 0, none⟩) N c) k) : k.length ≤ c := by
  rcases h.2 with ⟨e, _⟩ | ⟨_, _, _, e, _, _, h1, _⟩
  · cases e
  · injection e with _ e2 e3
    omega
theorem nil29 (W : World) : (binOp .eql 39 (.slice none 0 0) (.slice none 0 0)).run Tryd.prog W = .ok (.bool true) W := by kernel_rfl
theorem some29 (W : World) (a : Addr) (n c : Nat) : (binOp .eql 39 (.slice (some a) n c) (.slice none 0 0)).run Tryd.prog W = .ok (.bool false) W := by kernel_rfl
theorem lentInts_nil (w : World) : Calls Tryd.prog 37 #[.slice none 0 0] w fun e w' => e = .returned (.slice none 0 0) ∧ w' = w := by
  have he := nil29
  go_enter Tryd.func37, Tryd.ntmps37
  go_wp2
  go_ret
  exact ⟨rfl, rfl⟩
set_option maxHeartbeats 2000000 in
theorem lentInts_some (ad : Addr) (c : Nat) (l : List Int) (w : World) (hr : IR w (.slice (some ad) l.length c) l) (hn : l.length ≤ 1048576) :
    Calls Tryd.prog 37 #[.slice (some ad) l.length c] w fun e w' => ∃ ov, e = .returned ov ∧ LIn w' w.heap.size ov (.slice (some ad) l.length c) l ∧ Below w.heap.size w w' := by
  have he := some29
  obtain ⟨n, hnn⟩ : ∃ n, l.length = n := ⟨_, rfl⟩
  have HN : Hid (l.length = n) := hnn
  have HR : Hid (∀ ob, IR (w.alloc ob) (.slice (some ad) n c) l) := fun ob => by rw [hnn] at hr; exact hr.grown ((Grown.refl _).alloc ob)
  rw [hnn] at hn ⊢
  have hnI : (n : Int) ≤ 1048576 := by omega
  have hn0 : (0 : Int) ≤ (n : Int) := by omega
  clear hr hnn
  go_enter Tryd.func37, Tryd.ntmps37
  go_wp2_with (at_builtin; go_must (first
    | (refine app_I rfl _ _ 39 rfl Tryd.underlying39 w.heap.size _ [] l l rfl rfl (own_emptyI w) (by intro e; cases e) ad n c rfl (HR.out _) (by rw [HN.out]; simp; omega) (by rw [size_up]; omega) ?_; intro g1 N1 c1 w1 hN1 hO1 hB1; rw [HN.out] at hN1; obtain rfl : n = N1 := hN1.symm)
    | (refine app_I rfl _ _ 39 rfl Tryd.underlying39 w.heap.size (.slice (some ⟨g1, 0, none⟩) n c1) l [-71, -72] (l ++ [-71, -72]) rfl rfl (hO1.alloc _) (by intro e; cases e) ⟨w1.heap.size, 0, none⟩ 2 2 rfl (ir_two (heap_alloc_new _ _)) (by rw [HN.out]; simp; omega) (by have := hB1.size; rw [size_up] at this; rw [size_up]; omega) ?_; intro g2 N2 c2 w2 hN2 hO2 hB2; have hcc := own_cap hO2; rw [List.length_append, HN.out] at hN2 hcc; obtain rfl : N2 = n + 2 := hN2; have hcI : (n : Int) ≤ (c2 : Int) := Int.ofNat_le.2 (Nat.le_trans (Nat.le_add_right _ _) hcc))))
  go_ret
  refine ⟨_, rfl, .inr ⟨⟨ad, c, by rw [HN.out]⟩, g2, c2, by rw [HN.out]; rfl, by rw [HN.out]; exact hcc, by rw [HN.out]; exact hO2⟩, ?_⟩
  exact (below_up (((Below.refl _ w).alloc (Nat.le_refl _) _).trans hB1) (Nat.le_refl _) _).trans hB2
theorem lentInts_any (v : Value) (l : List Int) (w : World) (hr : IR w v l) (hN : v = .slice none 0 0 ∨ ∃ ad n c, v = .slice (some ad) n c) (hn : l.length ≤ 1048576) :
    Calls Tryd.prog 37 #[v] w fun e w' => ∃ ov, e = .returned ov ∧ LIn w' w.heap.size ov v l ∧ Below w.heap.size w w' := by
  rcases hN with rfl | ⟨ad, n, c, rfl⟩
  · obtain rfl : l = [] := List.eq_nil_of_length_eq_zero (ir_leng hr).symm
    refine (lentInts_nil w).mono ?_
    rintro e w' ⟨rfl, rfl⟩
    exact ⟨_, rfl, .inl ⟨rfl, rfl, rfl⟩, Below.refl _ _⟩
  · obtain rfl := ir_leng hr
    exact lentInts_some ad c l w hr hn
theorem stillInts_nil (w : World) : Calls Tryd.prog 40 #[.slice none 0 0, .slice none 0 0] w fun e w' => e = .returned (.bool true) ∧ w' = w := by
  have he := nil29
  go_enter Tryd.func40, Tryd.ntmps40
  go_wp2
  go_ret
  exact ⟨rfl, rfl⟩
/-- how far the numbers are written over -/
structure SI (w : World) (base g cap : Nat) (W : World) : Prop where
  but : ButO (some g) w W
  blk : ∃ cur, W.heap[g]? = some (.cells cur 3 (0, 0)) ∧ cur.size = cap
  bl : Below base w W
theorem SI.set {w W : World} {base g cap j : Nat} {u : Value} (h : SI w base g cap W) (hg : base ≤ g) : SI w base g cap (W.setCell ⟨g, j, none⟩ u) := by
  obtain ⟨h1, ⟨cur, h2, h3⟩, h4⟩ := h
  refine ⟨fun b hb o ho => ?_, ⟨_, cells_setS h2, by simpa using h3⟩, h4.setCell hg _⟩
  show (W.heap.modify g _)[b]? = _
  rw [Array.getElem?_modify, if_neg (fun e => hb (by rw [e]))]
  exact h1 b hb o ho
theorem SI.grown {w W W' : World} {base g cap : Nat} (h : SI w base g cap W) (hb : base ≤ W.heap.size) (hg : Grown W W') : SI w base g cap W' := by
  obtain ⟨h1, ⟨cur, h2, h3⟩, h4⟩ := h
  have hk : ∀ {b : Nat} {o : Obj}, W.heap[b]? = some o → W'.heap[b]? = some o := fun {b _} h5 => (hg.below.block b (Array.getElem?_eq_some_iff.1 h5).1).trans h5
  exact ⟨fun b hb o ho => hk (h1 b hb o ho), ⟨cur, hk h2, h3⟩, h4.trans (hg.below.mono hb)⟩
theorem SI.cell {w W : World} {base g cap k : Nat} (h : SI w base g cap W) (hk : k < cap) : (∃ x, W.cell? ⟨g, k, none⟩ = some x) ∧ W.frozen? ⟨g, k, none⟩ = false := by
  obtain ⟨_, ⟨cur, h2, h3⟩, _⟩ := h
  refine ⟨⟨cur[k]'(by omega), ?_⟩, by simp [World.frozen?, h2]⟩
  rw [cell_of h2, Array.getElem?_eq_getElem (by omega)]
set_option maxHeartbeats 4000000 in
theorem stillInts_some (g cap base : Nat) (ad : Addr) (c : Nat) (l : List Int) (w : World) (hr : IR w (.slice (some ad) l.length c) l) (hc : l.length + 2 ≤ cap) (ho : OwnI w base (.slice (some ⟨g, 0, none⟩) (l.length + 2) cap) (l ++ [-71, -72])) (hn : l.length ≤ 1048576) :
    Calls Tryd.prog 40 #[.slice (some ⟨g, 0, none⟩) l.length cap, .slice (some ad) l.length c] w fun e w' => e = .returned (.bool true) ∧ Below base w w' ∧ ButO (some g) w w' ∧ ∃ cur, w.heap[g]? = some (Obj.cells cur 3 (0, 0)) ∧ ∃ cur', w'.heap[g]? = some (Obj.cells cur' 3 (0, 0)) ∧ cur'.size = cur.size := by
  have he := some29
  obtain ⟨n, hnn⟩ : ∃ n, l.length = n := ⟨_, rfl⟩
  have HN : Hid (l.length = n) := hnn
  have HR : Hid (IR w (.slice (some ad) n c) l) := by rw [hnn] at hr; exact hr
  have HOc : Hid (∀ j x, (l ++ [-71, -72])[j]? = some x → w.cell? ⟨g, j, none⟩ = some (.int .i64 x)) := fun j x hx => by
    have := World.ownsRow.cells ho rfl j (.int .i64 x) (by unfold ints; rw [List.getElem?_map, hx]; rfl)
    rwa [add_zero_at] at this
  have HSI : Hid (base ≤ g ∧ SI w base g cap w) := by
    rcases ho.2 with ⟨e, _⟩ | ⟨g', cap', cur, e, k1, k2, k3, k4, k5, _⟩
    · cases e
    · injection e with e1 e2 e3
      injection e1 with e1
      injection e1 with e1
      subst e1 e3
      exact ⟨k1, fun _ _ _ h => h, ⟨cur, k2, by omega⟩, Below.refl _ _⟩
  rw [hnn] at hn hc ⊢
  have hnI : (n : Int) ≤ 1048576 := by omega
  have hn0 : (0 : Int) ≤ (n : Int) := by omega
  have hcI : (n : Int) + 2 ≤ (cap : Int) := by omega
  have m0 := HOc.out n (-71) (by rw [← hnn]; simp)
  have m1 := HOc.out (n + 1) (-72) (by rw [← hnn]; simp)
  have HBs : Hid (base ≤ w.heap.size) := by
    obtain ⟨cur, h2, _⟩ := HSI.out.2.blk
    have := (Array.getElem?_eq_some_iff.1 h2).1
    exact Nat.le_of_lt (Nat.lt_of_le_of_lt HSI.out.1 this)
  clear hr hnn ho
  go_enter Tryd.func40, Tryd.ntmps40
  go_wp2
  clear m0 m1
  go_loopw [6, 33] (fun v6 vi wr => ∃ k : Nat, vi = .int .i64 k ∧ v6 = .bool true ∧ k ≤ n ∧ Grown w wr) (fun _ vi _ => n - (intOf vi).toNat)
  case atStart => exact ⟨0, rfl, rfl, by omega, Grown.refl _⟩
  case round =>
    obtain ⟨k, rfl, rfl, hk, hG⟩ := hrel
    have hk0 : (0 : Int) ≤ (k : Int) := by omega
    by_cases hlt : k < n
    · as_aux_lemma =>
        have hlt' : (k : Int) < (n : Int) := by omega
        have hlt2 : (k : Int) < (n : Int) + 2 := by omega
        have hkl : k < l.length := by rw [HN.out]; exact hlt
        obtain ⟨gg, oo, hh⟩ := ir_addr HR.out (fun e => by rw [e] at hkl; simp at hkl)
        injection hh with hh
        subst hh
        obtain ⟨a', c', e', _, hcl⟩ := HR.out
        injection e' with e1 e2 e3
        clear e2 e3
        obtain ⟨g', o', ha', hcl2⟩ := hcl.resolve_left (fun e => by rw [e] at hkl; simp at hkl)
        rw [ha'] at e1
        injection e1 with e1
        injection e1 with e1 e2
        subst e1 e2
        have q0 := fun q os => (hG.quiet q os).cellv (hcl2 k hkl)
        have q1 := fun q os => (hG.quiet q os).cellv (HOc.out k l[k] (by rw [List.getElem?_append_left hkl, List.getElem?_eq_getElem hkl]))
        generalize l[k] = x at q0 q1
        have hxx : (x == x) = true := by simp
        clear hcl hcl2 ha'
        go_wp2
        refine wp_region_quiet_grown mixed (by kernel_rfl) ?_
        repeat (go_big_quiet_step (fail))
        refine wpQuiet_nil ?_
        intro _ hw'
        obtain ⟨⟨nq, osq⟩, hw''⟩ := hw'
        subst hw''
        go_wp2
        exact ⟨⟨k + 1, by go_num, rfl, by omega, hG.quiet _ _⟩, by simp [intOf]; omega⟩
    · have hge : ¬ (k : Int) < (n : Int) := by omega
      have HS1 : Hid (SI w base g cap wr) := HSI.out.2.grown HBs.out hG
      have HBg : Hid (base ≤ g) := HSI.out.1
      have HIn : Hid (∃ cur, w.heap[g]? = some (Obj.cells cur 3 (0, 0)) ∧ cur.size = cap) := HSI.out.2.blk
      clear HSI HOc HR
      go_wp2
      go_loopw [51] (fun vi wx => ∃ j : Nat, vi = .int .i64 j ∧ j ≤ n + 2 ∧ Hid (SI w base g cap wx)) (fun vi _ => n + 2 - (intOf vi).toNat)
      case atStart => exact ⟨0, rfl, by omega, HS1⟩
      case round =>
        obtain ⟨j, rfl, hj, HS⟩ := hrel
        have hj0 : (0 : Int) ≤ (j : Int) := by omega
        by_cases hjl : j < n + 2
        · as_aux_lemma =>
            have hjI : (j : Int) < (n : Int) + 2 := by omega
            obtain ⟨⟨x, cx⟩, fx⟩ := HS.out.cell (k := j) (by omega)
            have HS2 : Hid (SI w base g cap (wr.setCell ⟨g, j, none⟩ (.int .i64 97))) := HS.out.set HBg.out
            clear HS HS1
            go_wp2
            exact ⟨⟨j + 1, by go_num, by omega, HS2⟩, by simp [intOf]; omega⟩
        · as_aux_lemma =>
            have hjI : ¬ (j : Int) < (n : Int) + 2 := by omega
            go_wp2
            go_ret
            obtain ⟨cu, hu1, hu2⟩ := HIn.out
            obtain ⟨cv, hv1, hv2⟩ := HS.out.blk
            exact ⟨rfl, HS.out.bl, HS.out.but, cu, hu1, cv, hv1, by omega⟩
theorem stillInts_any (ov v : Value) (base : Nat) (l : List Int) (w : World) (h : LIn w base ov v l) (hr : IR w v l) (hn : l.length ≤ 1048576) :
    Calls Tryd.prog 40 #[ov, v] w fun e w' => e = .returned (.bool true) ∧ Below base w w' ∧ ButO ov.ownBlock w w' ∧ ∀ b, ov.ownBlock = some b → ∃ cur, w.heap[b]? = some (Obj.cells cur 3 (0, 0)) ∧ ∃ cur', w'.heap[b]? = some (Obj.cells cur' 3 (0, 0)) ∧ cur'.size = cur.size := by
  rcases h with ⟨rfl, rfl, _⟩ | ⟨⟨ad, c, rfl⟩, g, cap, rfl, h3, h4⟩
  · refine (stillInts_nil w).mono ?_
    rintro e w' ⟨rfl, rfl⟩
    exact ⟨rfl, Below.refl _ _, fun _ _ _ h => h, fun b hb => by cases hb⟩
  · refine (stillInts_some g cap base ad c l w hr h3 h4 hn).mono ?_
    rintro e w' ⟨h5, h6, h7, h8⟩
    refine ⟨h5, h6, h7, fun b hb => ?_⟩
    injection hb with hb
    change g = b at hb
    subst hb
    exact h8

def ShS (W : World) (B : Nat) (v : Value) : Prop := ∃ a n c, v = .slice a n c ∧ n ≤ 1048576 ∧ (n = 0 ∨ ∃ g cur, a = some ⟨g, 0, none⟩ ∧ B ≤ g ∧ W.heap[g]? = some (.cells cur 70 (0, 0)) ∧ n * 2 ≤ cur.size)
def ShR (W : World) (B : Nat) (v : Value) : Prop := ∃ a n c, v = .slice a n c ∧ n ≤ 1048576 ∧ (n = 0 ∨ ∃ g cur, a = some ⟨g, 0, none⟩ ∧ B ≤ g ∧ W.heap[g]? = some (.cells cur 51 (0, 0)) ∧ n ≤ cur.size ∧ ∀ j u, j < n → cur[j]? = some u → ShS W B u)
def ShP (W : World) (B : Nat) (v : Value) : Prop := ∃ a n c, v = .slice a n c ∧ n ≤ 1048576 ∧ (n = 0 ∨ ∃ g cur, a = some ⟨g, 0, none⟩ ∧ B ≤ g ∧ W.heap[g]? = some (.cells cur 53 (0, 0)) ∧ n * 4 ≤ cur.size ∧ ∀ j u, j < n → cur[j * 4 + 3]? = some u → ShS W B u)
structure ShL (W : World) (B : Nat) (cur : Array Value) (o : Nat) : Prop where
  b : ∃ x, cur[o]? = some (.bool x)
  a : ∃ u, cur[o + 1]? = some u ∧ ShR W B u
  k : ∃ u, cur[o + 2]? = some u ∧ ShR W B u
  p : ∃ u, cur[o + 3]? = some u ∧ ShR W B u
  e : ∃ x, cur[o + 4]? = some (.bool x)
  r : ∃ u, cur[o + 5]? = some u ∧ ShP W B u
  c : ∃ x, cur[o + 6]? = some (.int .i64 x)
def ShQ (W : World) (B : Nat) (v : Value) : Prop := ∃ a n c, v = .slice a n c ∧ n ≤ 1048576 ∧ (n = 0 ∨ ∃ g cur, a = some ⟨g, 0, none⟩ ∧ B ≤ g ∧ W.heap[g]? = some (.cells cur 25 (0, 0)) ∧ ∀ j, j < n → ShL W B cur (j * 7))
/-- what may be written at a place of a block -/
def Gd (W : World) (B : Nat) (t : TypeId) (j : Nat) (u : Value) : Prop :=
  (t = 51 → ShS W B u) ∧ (t = 53 → j % 4 = 3 → ShS W B u) ∧ (t = 25 → (j % 7 = 0 → ∃ x, u = .bool x) ∧ (j % 7 = 1 → ShR W B u) ∧ (j % 7 = 2 → ShR W B u) ∧ (j % 7 = 3 → ShR W B u) ∧ (j % 7 = 4 → ∃ x, u = .bool x) ∧ (j % 7 = 5 → ShP W B u) ∧ (j % 7 = 6 → ∃ x, u = .int .i64 x))
structure Ch (B : Nat) (W W' : World) : Prop where
  bl : Below B W W'
  ch : ∀ (b : Nat) (cur : Array Value) (t : TypeId), W.heap[b]? = some (Obj.cells cur t (0, 0)) → ∃ cur', W'.heap[b]? = some (Obj.cells cur' t (0, 0)) ∧ cur'.size = cur.size ∧ ∀ j u, cur'[j]? = some u → cur[j]? = some u ∨ Gd W' B t j u
section
variable {B : Nat} {W W' W'' : World} {v : Value}
theorem ShS.ch (h : ShS W B v) (k : Ch B W W') : ShS W' B v := by
  obtain ⟨a, n, c, e, hn, h⟩ := h
  refine ⟨a, n, c, e, hn, h.imp id ?_⟩
  rintro ⟨g, cur, h1, h2, h3, h4⟩
  obtain ⟨cur', k1, k2, _⟩ := k.ch g cur 70 h3
  exact ⟨g, cur', h1, h2, k1, by omega⟩
theorem ShR.ch (h : ShR W B v) (k : Ch B W W') : ShR W' B v := by
  obtain ⟨a, n, c, e, hn, h⟩ := h
  refine ⟨a, n, c, e, hn, h.imp id ?_⟩
  rintro ⟨g, cur, h1, h2, h3, h4, h5⟩
  obtain ⟨cur', k1, k2, k3⟩ := k.ch g cur 51 h3
  refine ⟨g, cur', h1, h2, k1, by omega, fun j u hj hu => ?_⟩
  rcases k3 j u hu with h6 | h6
  · exact (h5 j u hj h6).ch k
  · exact h6.1 rfl
theorem ShP.ch (h : ShP W B v) (k : Ch B W W') : ShP W' B v := by
  obtain ⟨a, n, c, e, hn, h⟩ := h
  refine ⟨a, n, c, e, hn, h.imp id ?_⟩
  rintro ⟨g, cur, h1, h2, h3, h4, h5⟩
  obtain ⟨cur', k1, k2, k3⟩ := k.ch g cur 53 h3
  refine ⟨g, cur', h1, h2, k1, by omega, fun j u hj hu => ?_⟩
  rcases k3 _ u hu with h6 | h6
  · exact (h5 j u hj h6).ch k
  · exact h6.2.1 rfl (by omega)
theorem ShL.ch {cur cur' : Array Value} {o : Nat} (h : ShL W B cur (o * 7)) (k : Ch B W W') (hs : cur'.size = cur.size) (hc : ∀ j u, cur'[j]? = some u → cur[j]? = some u ∨ Gd W' B 25 j u) : ShL W' B cur' (o * 7) := by
  have hg : ∀ i x, cur[i]? = some x → ∃ y, cur'[i]? = some y := fun i x hx => by
    have := (Array.getElem?_eq_some_iff.1 hx).1
    exact ⟨cur'[i]'(by omega), Array.getElem?_eq_getElem (by omega)⟩
  constructor
  · obtain ⟨x, hx⟩ := h.b
    obtain ⟨y, hy⟩ := hg _ _ hx
    rcases hc _ y hy with e | e
    · rw [hx] at e; exact ⟨x, hy.trans e.symm⟩
    · obtain ⟨z, hz⟩ := (e.2.2 rfl).1 (by omega); exact ⟨z, by rw [hy, hz]⟩
  · obtain ⟨x, hx, hr⟩ := h.a
    obtain ⟨y, hy⟩ := hg _ _ hx
    rcases hc _ y hy with e | e
    · rw [hx] at e; injection e with e; subst e; exact ⟨_, hy, hr.ch k⟩
    · exact ⟨y, hy, (e.2.2 rfl).2.1 (by omega)⟩
  · obtain ⟨x, hx, hr⟩ := h.k
    obtain ⟨y, hy⟩ := hg _ _ hx
    rcases hc _ y hy with e | e
    · rw [hx] at e; injection e with e; subst e; exact ⟨_, hy, hr.ch k⟩
    · exact ⟨y, hy, (e.2.2 rfl).2.2.1 (by omega)⟩
  · obtain ⟨x, hx, hr⟩ := h.p
    obtain ⟨y, hy⟩ := hg _ _ hx
    rcases hc _ y hy with e | e
    · rw [hx] at e; injection e with e; subst e; exact ⟨_, hy, hr.ch k⟩
    · exact ⟨y, hy, (e.2.2 rfl).2.2.2.1 (by omega)⟩
  · obtain ⟨x, hx⟩ := h.e
    obtain ⟨y, hy⟩ := hg _ _ hx
    rcases hc _ y hy with e | e
    · rw [hx] at e; exact ⟨x, hy.trans e.symm⟩
    · obtain ⟨z, hz⟩ := (e.2.2 rfl).2.2.2.2.1 (by omega); exact ⟨z, by rw [hy, hz]⟩
  · obtain ⟨x, hx, hr⟩ := h.r
    obtain ⟨y, hy⟩ := hg _ _ hx
    rcases hc _ y hy with e | e
    · rw [hx] at e; injection e with e; subst e; exact ⟨_, hy, hr.ch k⟩
    · exact ⟨y, hy, (e.2.2 rfl).2.2.2.2.2.1 (by omega)⟩
  · obtain ⟨x, hx⟩ := h.c
    obtain ⟨y, hy⟩ := hg _ _ hx
    rcases hc _ y hy with e | e
    · rw [hx] at e; exact ⟨x, hy.trans e.symm⟩
    · obtain ⟨z, hz⟩ := (e.2.2 rfl).2.2.2.2.2.2 (by omega); exact ⟨z, by rw [hy, hz]⟩
theorem ShQ.ch (h : ShQ W B v) (k : Ch B W W') : ShQ W' B v := by
  obtain ⟨a, n, c, e, hn, h⟩ := h
  refine ⟨a, n, c, e, hn, h.imp id ?_⟩
  rintro ⟨g, cur, h1, h2, h3, h4⟩
  obtain ⟨cur', k1, k2, k3⟩ := k.ch g cur 25 h3
  exact ⟨g, cur', h1, h2, k1, fun j hj => (h4 j hj).ch k k2 k3⟩
theorem Gd.ch {t : TypeId} {j : Nat} (h : Gd W B t j v) (k : Ch B W W') : Gd W' B t j v :=
  ⟨fun e => (h.1 e).ch k, fun e f => (h.2.1 e f).ch k, fun e => ⟨(h.2.2 e).1, fun f => ((h.2.2 e).2.1 f).ch k, fun f => ((h.2.2 e).2.2.1 f).ch k, fun f => ((h.2.2 e).2.2.2.1 f).ch k, (h.2.2 e).2.2.2.2.1, fun f => ((h.2.2 e).2.2.2.2.2.1 f).ch k, (h.2.2 e).2.2.2.2.2.2⟩⟩
theorem Ch.refl (B : Nat) (W : World) : Ch B W W := ⟨Below.refl _ _, fun _ cur _ h => ⟨cur, h, rfl, fun _ _ hu => .inl hu⟩⟩
theorem Ch.trans (h : Ch B W W') (k : Ch B W' W'') : Ch B W W'' := by
  refine ⟨h.bl.trans k.bl, fun b cur t hb => ?_⟩
  obtain ⟨c1, a1, a2, a3⟩ := h.ch b cur t hb
  obtain ⟨c2, b1, b2, b3⟩ := k.ch b c1 t a1
  refine ⟨c2, b1, by omega, fun j u hu => ?_⟩
  rcases b3 j u hu with e | e
  · rcases a3 j u e with f | f
    · exact .inl f
    · exact .inr (f.ch k)
  · exact .inr e
theorem Ch.ext (h : Ch B W W') (hB : B ≤ W'.heap.size) (hb : Below W'.heap.size W' W'') : Ch B W W'' :=
  h.trans ⟨hb.mono hB, fun b cur _ hc => ⟨cur, (hb.block b (Array.getElem?_eq_some_iff.1 hc).1).trans hc, rfl, fun _ _ hu => .inl hu⟩⟩
theorem Ch.set {g j : Nat} {cur : Array Value} {t : TypeId} {u : Value} (hg : W.heap[g]? = some (Obj.cells cur t (0, 0))) (hB : B ≤ g) (hu : Gd (W.setCell ⟨g, j, none⟩ u) B t j u) : Ch B W (W.setCell ⟨g, j, none⟩ u) := by
  refine ⟨(Below.refl _ _).setCell hB _, fun b cur' t' hb => ?_⟩
  by_cases e : b = g
  · subst e
    rw [hg] at hb
    injection hb with hb
    injection hb with e1 e2 e3
    subst e1 e2
    refine ⟨_, cells_setS hg, by simp, fun i x hx => ?_⟩
    rw [Array.getElem?_setIfInBounds] at hx
    by_cases ei : j = i
    · subst ei
      rw [if_pos rfl] at hx
      split at hx
      · injection hx with hx
        subst hx
        exact .inr hu
      · cases hx
    · rw [if_neg ei] at hx
      exact .inl hx
  · refine ⟨cur', ?_, rfl, fun _ _ h => .inl h⟩
    show (W.heap.modify g _)[b]? = _
    rw [Array.getElem?_modify, if_neg (fun h => e h.symm)]
    exact hb
/-- a set keeps its shape, whatever is written -/
theorem ShS.set {g j : Nat} {u : Value} (h : ShS W B v) : ShS (W.setCell ⟨g, j, none⟩ u) B v := by
  obtain ⟨a, n, c, e, hn, h⟩ := h
  refine ⟨a, n, c, e, hn, h.imp id ?_⟩
  rintro ⟨g', cur, h1, h2, h3, h4⟩
  by_cases eg : g' = g
  · subst eg
    exact ⟨g', _, h1, h2, cells_setS h3, by simpa using h4⟩
  · refine ⟨g', cur, h1, h2, ?_, h4⟩
    show (W.heap.modify g _)[g']? = _
    rw [Array.getElem?_modify, if_neg (fun h => eg h.symm)]
    exact h3
theorem shS_nil : ShS W B (.slice none 0 0) := ⟨none, 0, 0, rfl, by omega, .inl rfl⟩
theorem shR_nil : ShR W B (.slice none 0 0) := ⟨none, 0, 0, rfl, by omega, .inl rfl⟩
theorem shP_nil : ShP W B (.slice none 0 0) := ⟨none, 0, 0, rfl, by omega, .inl rfl⟩
end

theorem blk_cell {W : World} {g k : Nat} {cur : Array Value} {t : TypeId} (h : W.heap[g]? = some (.cells cur t (0, 0))) (hk : k < cur.size) : (∃ x, W.cell? ⟨g, k, none⟩ = some x ∧ cur[k]? = some x) ∧ W.frozen? ⟨g, k, none⟩ = false :=
  ⟨⟨cur[k], by rw [cell_of h, Array.getElem?_eq_getElem hk], Array.getElem?_eq_getElem hk⟩, by simp [World.frozen?, h]⟩
theorem set_blk {W : World} {g j : Nat} {cur : Array Value} {t : TypeId} {u : Value} (h : W.heap[g]? = some (.cells cur t (0, 0))) : ∃ cur', (W.setCell ⟨g, j, none⟩ u).heap[g]? = some (.cells cur' t (0, 0)) ∧ cur'.size = cur.size := ⟨_, cells_setS h, by simp⟩
/-- shapes stay, and blocks of other types are the same -/
def Sp (T : TypeId → Prop) (B : Nat) (W W' : World) : Prop := Ch B W W' ∧ ∀ t, ¬ T t → KT t W W'
theorem Sp.refl (T : TypeId → Prop) (B : Nat) (W : World) : Sp T B W W := ⟨Ch.refl _ _, fun _ _ _ _ _ h => h⟩
theorem Sp.trans {T : TypeId → Prop} {B : Nat} {W W' W'' : World} (h : Sp T B W W') (k : Sp T B W' W'') : Sp T B W W'' := ⟨h.1.trans k.1, fun t ht b cs m hb => k.2 t ht b cs m (h.2 t ht b cs m hb)⟩
theorem Sp.mono {T T' : TypeId → Prop} {B : Nat} {W W' : World} (h : Sp T B W W') (k : ∀ t, T t → T' t) : Sp T' B W W' := ⟨h.1, fun t ht => h.2 t (fun a => ht (k t a))⟩
def T1 : TypeId → Prop := fun t => t = 70
def T2 : TypeId → Prop := fun t => t = 70 ∨ t = 51
def T3 : TypeId → Prop := fun t => t = 70 ∨ t = 51 ∨ t = 53
def T4 : TypeId → Prop := fun t => t = 70 ∨ t = 51 ∨ t = 53 ∨ t = 25
theorem Sp.set {T : TypeId → Prop} {B g j : Nat} {W : World} {cur : Array Value} {t : TypeId} {u : Value} (hT : T t) (hg : W.heap[g]? = some (Obj.cells cur t (0, 0))) (hB : B ≤ g) (hu : Gd (W.setCell ⟨g, j, none⟩ u) B t j u) : Sp T B W (W.setCell ⟨g, j, none⟩ u) :=
  ⟨Ch.set hg hB hu, fun t' ht => KT.set _ _ _ _ (fun cs m e => by rw [hg] at e; injection e with e; injection e with _ e2 _; subst e2; exact ht hT)⟩
theorem Sp.new {T : TypeId → Prop} {W : World} {B : Nat} (o : Obj) (hB : B ≤ W.heap.size) : Sp T B W (W.alloc o) := ⟨(Ch.refl B W).ext hB ((Below.refl _ W).alloc (Nat.le_refl _) o), fun _ _ => KT.below ((Below.refl _ W).alloc (Nat.le_refl _) o)⟩
theorem gd59 (W : World) (B j : Nat) (u : Value) : Gd W B 70 j u := ⟨fun e => (by cases e), fun e => (by cases e), fun e => (by cases e)⟩
set_option maxHeartbeats 2000000 in
theorem spoilSet_any (v : Value) (B : Nat) (w : World) (h : ShS w B v) : Calls Tryd.prog 65 #[v] w fun e w' => (∃ x, e = .returned x) ∧ Sp T1 B w w' := by
  have HS : Hid (ShS w B v) := h
  obtain ⟨a, n, c, rfl, hn, _⟩ := h
  have hnI : (n : Int) ≤ 1048576 := by omega
  go_enter Tryd.func65, Tryd.ntmps65
  go_wp2
  go_loopw [5] (fun vi wr => ∃ k : Nat, vi = .int .i64 k ∧ k ≤ n ∧ Hid (Sp T1 B w wr)) (fun vi _ => n - (intOf vi).toNat)
  case atStart => exact ⟨0, rfl, by omega, Sp.refl _ _ _⟩
  case round =>
    obtain ⟨k, rfl, hk, HC⟩ := hrel
    have hk0 : (0 : Int) ≤ (k : Int) := by omega
    by_cases hlt : k < n
    · as_aux_lemma =>
        have hlt' : (k : Int) < (n : Int) := by omega
        obtain ⟨a', n', c', e, _, h⟩ := HS.out.ch HC.out.1
        injection e with e1 e2 e3
        subst e1 e2 e3
        obtain ⟨g, cur, rfl, hB, hg, hs⟩ := h.resolve_left (by omega)
        obtain ⟨⟨x0, c0, _⟩, f0⟩ := blk_cell hg (k := k * 2) (by omega)
        obtain ⟨⟨x1, c1, _⟩, f1⟩ := blk_cell hg (k := k * 2 + 1) (by omega)
        obtain ⟨cur1, hg1, hs1⟩ := set_blk (j := k * 2) (u := .int .i64 97) hg
        obtain ⟨⟨x2, c2, _⟩, f2⟩ := blk_cell hg1 (k := k * 2 + 1) (by omega)
        have HE : Hid (Sp T1 B w ((wr.setCell ⟨g, k * 2, none⟩ (.int .i64 97)).setCell ⟨g, k * 2 + 1, none⟩ (.int .i64 122))) := (HC.out.trans (Sp.set rfl hg hB (gd59 _ _ _ _))).trans (Sp.set rfl hg1 hB (gd59 _ _ _ _))
        clear HC hg hg1 h
        go_wp2
        exact ⟨⟨k + 1, by go_num, by omega, HE⟩, by simp [intOf]; omega⟩
    · as_aux_lemma =>
        have hge : ¬ (k : Int) < (n : Int) := by omega
        go_wp2
        go_end0
        exact ⟨⟨_, rfl⟩, HC.out⟩

theorem gd48 {W : World} {B : Nat} {u : Value} (j : Nat) (h : ShS W B u) : Gd W B 51 j u := ⟨fun _ => h, fun e => (by cases e), fun e => (by cases e)⟩
/-- a new set of one range -/
theorem shS_new {W : World} {B : Nat} (x y : Value) (hB : B ≤ W.heap.size) : ShS (W.alloc (.cells #[x, y] 70)) B (.slice (some ⟨W.heap.size, 0, none⟩) 1 1) :=
  ⟨_, 1, 1, rfl, by omega, .inr ⟨W.heap.size, _, rfl, hB, heap_alloc_new _ _, Nat.le_refl _⟩⟩
theorem ch_new {W : World} {B : Nat} (o : Obj) (hB : B ≤ W.heap.size) : Ch B W (W.alloc o) := (Ch.refl B W).ext hB ((Below.refl _ W).alloc (Nat.le_refl _) o)
set_option maxHeartbeats 2000000 in
theorem spoilRow_any (v : Value) (B : Nat) (w : World) (hB : B ≤ w.heap.size) (h : ShR w B v) : Calls Tryd.prog 64 #[v] w fun e w' => (∃ x, e = .returned x) ∧ Sp T2 B w w' := by
  have HS : Hid (ShR w B v) := h
  have HB : Hid (B ≤ w.heap.size) := hB
  obtain ⟨a, n, c, rfl, hn, _⟩ := h
  have hnI : (n : Int) ≤ 1048576 := by omega
  clear hB
  go_enter Tryd.func64, Tryd.ntmps64
  go_wp2
  go_loopw [5] (fun vi wr => ∃ k : Nat, vi = .int .i64 k ∧ k ≤ n ∧ Hid (Sp T2 B w wr)) (fun vi _ => n - (intOf vi).toNat)
  case atStart => exact ⟨0, rfl, by omega, Sp.refl _ _ _⟩
  case round =>
    obtain ⟨k, rfl, hk, HC⟩ := hrel
    have hk0 : (0 : Int) ≤ (k : Int) := by omega
    by_cases hlt : k < n
    · have hlt' : (k : Int) < (n : Int) := by omega
      obtain ⟨a', n', c', e, _, h⟩ := HS.out.ch HC.out.1
      injection e with e1 e2 e3
      subst e1 e2 e3
      obtain ⟨g, cur, rfl, hB, hg, hs, hel⟩ := h.resolve_left (by omega)
      obtain ⟨⟨x0, c0, hx0⟩, f0⟩ := blk_cell hg (k := k) (by omega)
      have HX := hel k x0 hlt hx0
      have HCall : Hid (Calls Tryd.prog 65 #[x0] wr fun e w' => (∃ x, e = .returned x) ∧ Sp T1 B wr w') := spoilSet_any x0 B wr HX
      obtain ⟨s1, s2, s3, hx, _⟩ := HX
      subst hx
      have HG : Hid (∃ cur, wr.heap[g]? = some (.cells cur 51 (0, 0)) ∧ n ≤ cur.size) := ⟨cur, hg, hs⟩
      clear hg h hel hx0 f0
      go_wp2_with fail
      refine HCall.out.mono ?_
      rintro e w4 ⟨⟨x, rfl⟩, hc4⟩
      obtain ⟨cur4, hg4, hs4⟩ : ∃ cur, w4.heap[g]? = some (.cells cur 51 (0, 0)) ∧ n ≤ cur.size := by
        obtain ⟨cu, h1, h2⟩ := HG.out
        obtain ⟨cu', h3, h4, _⟩ := hc4.1.ch g cu 51 h1
        exact ⟨cu', h3, by omega⟩
      have hC4 := HC.out.trans (hc4.mono fun t ht => .inl ht)
      have hB4 : B ≤ w4.heap.size := Nat.le_trans HB.out hC4.1.bl.size
      have hg5 : (w4.alloc (.cells #[.int .i64 97, .int .i64 98] 70)).heap[g]? = some (.cells cur4 51 (0, 0)) := alloc_up hg4
      obtain ⟨⟨x5, c5, _⟩, f5⟩ := blk_cell hg5 (k := k) (by omega)
      have HE : Hid (Sp T2 B w ((w4.alloc (.cells #[.int .i64 97, .int .i64 98] 70)).setCell ⟨g, k, none⟩ (.slice (some ⟨w4.heap.size, 0, none⟩) 1 1))) := (hC4.trans (Sp.new _ hB4)).trans (Sp.set (.inr rfl) hg5 hB (gd48 _ (shS_new _ _ hB4).set))
      clear HCall hc4 hC4 hg4 hg5 HG c0 HC
      go_wp2
      exact ⟨⟨k + 1, by go_num, by omega, HE⟩, by simp [intOf]; omega⟩
    · as_aux_lemma =>
        have hge : ¬ (k : Int) < (n : Int) := by omega
        go_wp2
        go_end0
        exact ⟨⟨_, rfl⟩, HC.out⟩
theorem gd62 {W : World} {B : Nat} {u : Value} {j : Nat} (h : j % 4 = 3 → ShS W B u) : Gd W B 53 j u := ⟨fun e => (by cases e), fun _ => h, fun e => (by cases e)⟩
/-- a piece is written -/
theorem ch_piece {W : World} {B g k : Nat} {cur : Array Value} (hg : W.heap[g]? = some (.cells cur 53 (0, 0))) (hB : B ≤ g) (a b c : Int) : Sp T3 B W ((((W.setCell ⟨g, k * 4, none⟩ (.int .i64 a)).setCell ⟨g, k * 4 + 1, none⟩ (.int .i64 b)).setCell ⟨g, k * 4 + 2, none⟩ (.int .i64 c)).setCell ⟨g, k * 4 + 3, none⟩ (.slice none 0 0)) := by
  obtain ⟨c1, h1, _⟩ := set_blk (j := k * 4) (u := .int .i64 a) hg
  obtain ⟨c2, h2, _⟩ := set_blk (j := k * 4 + 1) (u := .int .i64 b) h1
  obtain ⟨c3, h3, _⟩ := set_blk (j := k * 4 + 2) (u := .int .i64 c) h2
  exact (((Sp.set (.inr (.inr rfl)) hg hB (gd62 (fun e => by omega))).trans (Sp.set (.inr (.inr rfl)) h1 hB (gd62 (fun e => by omega)))).trans (Sp.set (.inr (.inr rfl)) h2 hB (gd62 (fun e => by omega)))).trans (Sp.set (.inr (.inr rfl)) h3 hB (gd62 (fun _ => shS_nil)))
set_option maxHeartbeats 4000000 in
theorem spoilRule_any (bg en : Bool) (cu : Int) (av kv pv rv : Value) (B : Nat) (w : World) (hB : B ≤ w.heap.size) (ha : ShR w B av) (hk : ShR w B kv) (hp : ShR w B pv) (hr : ShP w B rv) : Calls Tryd.prog 41 #[.agg #[.bool bg, av, kv, pv, .bool en, rv, .int .i64 cu]] w fun e w' => (∃ x, e = .returned x) ∧ Sp T3 B w w' := by
  have HB : Hid (B ≤ w.heap.size) := hB
  have h23 : ∀ t, T2 t → T3 t := fun t ht => ht.elim .inl fun e => .inr (.inl e)
  have HA : Hid (∀ W, Sp T3 B w W → Calls Tryd.prog 64 #[av] W fun e w' => (∃ x, e = .returned x) ∧ Sp T3 B W w') := fun W hc => (spoilRow_any av B W (Nat.le_trans hB hc.1.bl.size) (ha.ch hc.1)).mono fun _ _ h => ⟨h.1, h.2.mono h23⟩
  have HK : Hid (∀ W, Sp T3 B w W → Calls Tryd.prog 64 #[kv] W fun e w' => (∃ x, e = .returned x) ∧ Sp T3 B W w') := fun W hc => (spoilRow_any kv B W (Nat.le_trans hB hc.1.bl.size) (hk.ch hc.1)).mono fun _ _ h => ⟨h.1, h.2.mono h23⟩
  have HP : Hid (∀ W, Sp T3 B w W → Calls Tryd.prog 64 #[pv] W fun e w' => (∃ x, e = .returned x) ∧ Sp T3 B W w') := fun W hc => (spoilRow_any pv B W (Nat.le_trans hB hc.1.bl.size) (hp.ch hc.1)).mono fun _ _ h => ⟨h.1, h.2.mono h23⟩
  have HR : Hid (ShP w B rv) := hr
  obtain ⟨a1, a2, a3, rfl, _⟩ := ha
  obtain ⟨k1, k2, k3, rfl, _⟩ := hk
  obtain ⟨p1, p2, p3, rfl, _⟩ := hp
  obtain ⟨r1, n, r3, rfl, hn, _⟩ := hr
  have hnI : (n : Int) ≤ 1048576 := by omega
  obtain ⟨w1, hw1⟩ : ∃ w1, w1 = w.alloc (.cells #[.bool bg, .slice a1 a2 a3, .slice k1 k2 k3, .slice p1 p2 p3, .bool en, .slice r1 n r3, .int .i64 cu] 25) := ⟨_, rfl⟩
  have HC1 : Hid (Sp T3 B w w1) := by show Sp _ _ _ _; rw [hw1]; exact Sp.new _ hB
  have hb1 : w1.heap[w.heap.size]? = some (.cells #[.bool bg, .slice a1 a2 a3, .slice k1 k2 k3, .slice p1 p2 p3, .bool en, .slice r1 n r3, .int .i64 cu] 25 (0, 0)) := by rw [hw1]; exact heap_alloc_new _ _
  obtain ⟨b, hb⟩ : ∃ b, w.heap.size = b := ⟨_, rfl⟩
  rw [hb] at hb1
  have HBX : Hid (∀ W, Sp T3 B w1 W → W.cell? ⟨b, 1, none⟩ = some (.slice a1 a2 a3) ∧ W.cell? ⟨b, 2, none⟩ = some (.slice k1 k2 k3) ∧ W.cell? ⟨b, 3, none⟩ = some (.slice p1 p2 p3) ∧ W.cell? ⟨b, 5, none⟩ = some (.slice r1 n r3)) := fun W hc => by
    have h1 := hc.2 25 (fun h => by rcases h with h | h | h <;> cases h) b _ _ hb1
    exact ⟨by rw [cell_of h1]; rfl, by rw [cell_of h1]; rfl, by rw [cell_of h1]; rfl, by rw [cell_of h1]; rfl⟩
  have HW := Hid.mk' hw1
  have HBB := Hid.mk' hb
  obtain ⟨c1, _, _, _⟩ := HBX.out w1 (Sp.refl _ _ _)
  have c1' := c1
  rw [hw1] at c1'
  clear hB hb1 hw1 h23
  go_enter Tryd.func41, Tryd.ntmps41
  go_wp2_with fail
  try rw [← HW.out]
  try rw [hb]
  clear hb c1' HBB HW
  refine (HA.out _ HC1.out).mono ?_
  rintro e w2 ⟨⟨x, rfl⟩, hc2⟩
  have HC2 := Hid.mk' hc2
  obtain ⟨_, c2, _, _⟩ := HBX.out w2 hc2
  clear hc2 c1
  go_wp2_with fail
  refine (HK.out _ (HC1.out.trans HC2.out)).mono ?_
  rintro e w3 ⟨⟨y, rfl⟩, hc3⟩
  have HC3 := Hid.mk' (HC2.out.trans hc3)
  obtain ⟨_, _, c3, _⟩ := HBX.out w3 HC3.out
  clear hc3 c2 HC2
  go_wp2_with fail
  refine (HP.out _ (HC1.out.trans HC3.out)).mono ?_
  rintro e w4 ⟨⟨z, rfl⟩, hc4⟩
  have HC4 := Hid.mk' (HC3.out.trans hc4)
  obtain ⟨_, _, _, c4⟩ := HBX.out w4 HC4.out
  clear hc4 c3 HC3
  go_wp2_with fail
  clear c4
  go_loopw [15] (fun vi wr => ∃ k : Nat, vi = .int .i64 k ∧ k ≤ n ∧ Hid (Sp T3 B w1 wr)) (fun vi _ => n - (intOf vi).toNat)
  case atStart => exact ⟨0, rfl, by omega, HC4⟩
  case round =>
    obtain ⟨k, rfl, hk, HC⟩ := hrel
    have hk0 : (0 : Int) ≤ (k : Int) := by omega
    by_cases hlt : k < n
    · have hlt' : (k : Int) < (n : Int) := by omega
      obtain ⟨a', n', c', e, _, h⟩ := HR.out.ch (HC1.out.trans HC.out).1
      injection e with e1 e2 e3
      subst e1 e2 e3
      obtain ⟨g, cur, rfl, hB, hg, hs, hel⟩ := h.resolve_left (by omega)
      obtain ⟨⟨x0, c0, hx0⟩, f0⟩ := blk_cell hg (k := k * 4 + 3) (by omega)
      have HX := hel k x0 hlt hx0
      have HCall : Hid (Calls Tryd.prog 65 #[x0] wr fun e w' => (∃ x, e = .returned x) ∧ Sp T1 B wr w') := spoilSet_any x0 B wr HX
      obtain ⟨s1, s2, s3, hx, _⟩ := HX
      subst hx
      have HG : Hid (wr.heap[g]? = some (.cells cur 53 (0, 0)) ∧ n * 4 ≤ cur.size) := ⟨hg, hs⟩
      obtain ⟨_, _, _, c5⟩ := HBX.out wr HC.out
      clear hg h hel hx0 f0
      go_wp2_with fail
      refine HCall.out.mono ?_
      rintro e w5 ⟨⟨x, rfl⟩, hc5⟩
      have hg5 := hc5.2 53 (fun h => by cases h) g _ _ HG.out.1
      have HC5 := Hid.mk' (HC.out.trans (hc5.mono fun t ht => .inl ht))
      obtain ⟨_, _, _, d5⟩ := HBX.out w5 HC5.out
      have hs5 := HG.out.2
      obtain ⟨⟨y0, u0, _⟩, v0⟩ := blk_cell hg5 (k := k * 4) (by omega)
      obtain ⟨cu1, hg6, hs6⟩ := set_blk (j := k * 4) (u := .int .i64 1) hg5
      obtain ⟨⟨y1, u1, _⟩, v1⟩ := blk_cell hg6 (k := k * 4 + 1) (by omega)
      obtain ⟨cu2, hg7, hs7⟩ := set_blk (j := k * 4 + 1) (u := .int .i64 113) hg6
      obtain ⟨⟨y2, u2, _⟩, v2⟩ := blk_cell hg7 (k := k * 4 + 2) (by omega)
      obtain ⟨cu3, hg8, hs8⟩ := set_blk (j := k * 4 + 2) (u := .int .i64 0) hg7
      obtain ⟨⟨y3, u3, _⟩, v3⟩ := blk_cell hg8 (k := k * 4 + 3) (by omega)
      have HE : Hid (Sp T3 B w1 ((((w5.setCell ⟨g, k * 4, none⟩ (.int .i64 1)).setCell ⟨g, k * 4 + 1, none⟩ (.int .i64 113)).setCell ⟨g, k * 4 + 2, none⟩ (.int .i64 0)).setCell ⟨g, k * 4 + 3, none⟩ (.slice none 0 0))) := HC5.out.trans (ch_piece hg5 hB 1 113 0)
      clear HCall hc5 hg5 hg6 hg7 hg8 HG c0 c5 HC
      go_wp2
      exact ⟨⟨k + 1, by go_num, by omega, HE⟩, by simp [intOf]; omega⟩
    · as_aux_lemma =>
        have hge : ¬ (k : Int) < (n : Int) := by omega
        go_wp2
        go_end0
        exact ⟨⟨_, rfl⟩, HC1.out.trans HC.out⟩


theorem own_blk {W : World} {B e s n c g : Nat} {xs : List Value} (h : W.ownsRow B e s (.slice (some ⟨g, 0, none⟩) n c) n xs) : ∃ cur, B ≤ g ∧ W.heap[g]? = some (Obj.cells cur e (0, 0)) ∧ cur.size = c * s ∧ n ≤ c ∧ ∀ (j : Nat) (u : Value), xs[j]? = some u → cur[j]? = some u := by
  rcases h.2 with ⟨e1, _⟩ | ⟨g', cap, cur, e1, h1, h2, h3, h4, h5, h6⟩
  · cases e1
  · injection e1 with e1 e2 e3
    injection e1 with e1
    injection e1 with e1
    subst e1 e3
    refine ⟨cur, h1, h2, h5, h3, fun j u hu => ?_⟩
    rw [← h6, List.getElem?_take] at hu
    split at hu
    · simpa using hu
    · cases hu
theorem LS.shs {W : World} {B : Nat} {ov sv : Value} {l : List (Int × Int)} (h : LS W B ov sv l) (hn : l.length ≤ 1048576) : ShS W B ov := by
  rcases h with ⟨_, rfl, _⟩ | ⟨_, g, cap, rfl, h3, h4⟩
  · exact shS_nil
  · have h4' : W.ownsRow B 70 2 (.slice (some ⟨g, 0, none⟩) (l.length + 1) cap) (l.length + 1) (fl (l ++ [(-7, -7)])) := by
      have := h4
      unfold OwnR at this
      rw [List.length_append] at this
      exact this
    obtain ⟨cur, k1, k2, k3, k4, _⟩ := own_blk h4'
    exact ⟨_, _, cap, rfl, hn, .inr ⟨g, cur, rfl, k1, k2, by omega⟩⟩
theorem LR.shr {W : World} {B : Nat} {ov v : Value} {svs : List Value} {ls : List (List (Int × Int))} (h : LR W B ov v svs ls) (hl : svs.length = ls.length) (hn : ls.length ≤ 1048576) (hs : ∀ l ∈ ls, l.length ≤ 1048576) : ShR W B ov := by
  rcases h with ⟨_, rfl, _⟩ | ⟨_, g, cap, ovs, gm, rfl, h3, h4, h5, _, _, h7⟩
  · exact shR_nil
  · obtain ⟨cur, k1, k2, k3, k4, k5⟩ := own_blk h5
    refine ⟨_, _, cap, rfl, hn, .inr ⟨g, cur, rfl, k1, k2, by omega, fun j u hj hu => ?_⟩⟩
    have hjo : j < ovs.length := by omega
    have := k5 j ovs[j] (by rw [List.getElem?_append_left hjo, List.getElem?_eq_getElem hjo])
    rw [hu] at this
    injection this with this
    subst this
    exact (h7 j hjo (by omega) hj).shs (hs _ (List.getElem_mem hj))
theorem LP.shp {W : World} {B : Nat} {ov v : Value} {tvs : List Value} {ps : List Pc} (h : LP W B ov v tvs ps) (hl : tvs.length = ps.length) (hn : ps.length ≤ 1048576) (hs : ∀ p ∈ ps, p.tl.length ≤ 1048576) : ShP W B ov := by
  rcases h with ⟨_, rfl, _⟩ | ⟨_, g, cap, es, rfl, h3, h4, h5, h6⟩
  · exact shP_nil
  · obtain ⟨cur, k1, k2, k3, k4, k5⟩ := own_blk h5
    have hel : es.length = ps.length := by rw [← h4, List.length_map]
    refine ⟨_, _, cap, rfl, hn, .inr ⟨g, cur, rfl, k1, k2, by omega, fun j u hj hu => ?_⟩⟩
    have hjo : j < es.length := by omega
    have h8 := (fp_at (es ++ [markP]) (j := j) (by simp; omega)).2.2.2
    rw [List.getElem_append_left hjo] at h8
    have := k5 _ _ h8
    rw [hu] at this
    injection this with this
    subst this
    refine (h6 j hjo (by omega)).shs (hs _ ?_)
    rw [← h4]
    exact List.mem_map.2 ⟨es[j], List.getElem_mem hjo, rfl⟩
theorem ints_ch {W W' : World} {B : Nat} {x : Option Nat} (hb : Below B W W') (hx : ∀ b, x = some b → ∃ cur, W.heap[b]? = some (Obj.cells cur 3 (0, 0)) ∧ ∃ cur', W'.heap[b]? = some (Obj.cells cur' 3 (0, 0)) ∧ cur'.size = cur.size) (k : ButO x W W') : Ch B W W' := by
  refine ⟨hb, fun b cur t hc => ?_⟩
  by_cases e : x = some b
  · obtain ⟨c1, h1, c2, h2, h3⟩ := hx b e
    rw [h1] at hc
    injection hc with hc
    injection hc with e1 e2 _
    subst e1 e2
    exact ⟨c2, h2, h3, fun _ _ _ => .inr ⟨fun e => (by cases e), fun e => (by cases e), fun e => (by cases e)⟩⟩
  · exact ⟨cur, k b (fun h => e h.symm) _ hc, rfl, fun _ _ h => .inl h⟩
end Go.Proofs
