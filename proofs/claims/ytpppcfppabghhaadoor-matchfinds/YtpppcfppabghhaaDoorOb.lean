/-
  Numbers that are lent.
-/
import Derived.RangeFuncNested
import Derived.RangeFuncBound
import Derived.RangeFuncCalls
import Derived.RangeFuncLeaves
import Derived.Shelf.Abstract
import Derived.Shelf.RegionOpen
import Derived.WalkKit
import Derived.WalkSpells
import Derived.WalkLawsBesides
import Derived.OwnWalkIn
import Derived.TacticsInMore
import Derived.LoopNIn
import Derived.LoopIn
import Derived.BigQuiet
import Derived.RegionIn
import Derived.Deep.QuietTactic
import Derived.Deep.RegionWith
import Derived.Lib.OthersKept
import Derived.Maps.AppendAt
import Derived.Lib.SmallJoins
import Derived.Shelf.SlSortCmp.QuietGrown
import Derived.Test.YtpppcfppabghhaaDoorAp
import Derived.Test.YtpppcfppabghhaaDoorQx
namespace Go.Proofs
open Go.RowKit Go.Shelf

set_option maxRecDepth 100000
attribute [local go_sem] Oper.semAt_some
attribute [local go_sem ↓] Go.wp_at_zero Go.wp_at_succ

/-- numbers that were lent -/
def LIn (W : World) (base : Nat) (ov v : Value) (l : List Int) : Prop :=
  (v = .slice none 0 0 ∧ ov = .slice none 0 0 ∧ l = []) ∨ ((∃ ad c, v = .slice (some ad) l.length c) ∧ ∃ g cap, ov = .slice (some ⟨g, 0, none⟩) l.length cap ∧ l.length + 2 ≤ cap ∧ OwnI W base (.slice (some ⟨g, 0, none⟩) (l.length + 2) cap) (l ++ [-71, -72]))
/-- all blocks but one stay, if there is one -/
def ButO (x : Option Nat) (W W' : World) : Prop := ∀ b, some b ≠ x → ∀ o, W.heap[b]? = some o → W'.heap[b]? = some o
theorem LIn.but {x : Option Nat} {W W' : World} {base : Nat} {ov v : Value} {l : List Int} (h : LIn W base ov v l) (k : ButO x W W') (hx : ov.ownBlock = none ∨ ov.ownBlock ≠ x) : LIn W' base ov v l := by
  rcases h with h | ⟨h1, g, cap, e, hc, ho⟩
  · exact .inl h
  · refine .inr ⟨h1, g, cap, e, hc, ho.1, ?_⟩
    rcases ho.2 with ⟨e2, _⟩ | ⟨g', cap', cur, e2, k1, k2, k3⟩
    · cases e2
    · refine .inr ⟨g', cap', cur, e2, k1, k g' (fun e3 => ?_) _ k2, k3⟩
      injection e2 with e2 _ _
      injection e2 with e2
      injection e2 with e2
      rw [e] at hx
      rcases hx with hx | hx
      · cases hx
      · exact hx (by rw [← e3, ← e2]; rfl)
theorem LIn.below {W W' : World} {base n : Nat} {ov v : Value} {l : List Int} (h : LIn W base ov v l) (hb : Below n W W') (hn : W.heap.size ≤ n) : LIn W' base ov v l :=
  h.but (x := none) (fun b _ o ho => (hb.block b (Nat.lt_of_lt_of_le (Array.getElem?_eq_some_iff.1 ho).1 hn)).trans ho) (by cases ov.ownBlock <;> simp)
theorem LIn.le {W : World} {base base' : Nat} {ov v : Value} {l : List Int} (h : LIn W base ov v l) (hb : base' ≤ base) : LIn W base' ov v l := by
  rcases h with h | ⟨h1, g, cap, e, hc, ho⟩
  · exact .inl h
  · exact .inr ⟨h1, g, cap, e, hc, ho.le hb⟩
theorem LIn.sl {W : World} {base : Nat} {ov v : Value} {l : List Int} (h : LIn W base ov v l) : IsSl ov := by
  rcases h with ⟨_, e, _⟩ | ⟨_, g, cap, e, _⟩
  · exact ⟨_, _, _, e⟩
  · exact ⟨_, _, _, e⟩
theorem LIn.blk {W : World} {base : Nat} {ov v : Value} {l : List Int} (h : LIn W base ov v l) : ∀ b, ov.ownBlock = some b → base ≤ b ∧ ∃ cur, W.heap[b]? = some (.cells cur 3 (0, 0)) := by
  intro b hb
  rcases h with ⟨_, e, _⟩ | ⟨_, g, cap, e, hc, ho⟩
  · rw [e] at hb; cases hb
  · rw [e] at hb
    injection hb with hb
    change g = b at hb
    subst hb
    rcases ho.2 with ⟨e2, _⟩ | ⟨g', cap', cur, e2, k1, k2, k3⟩
    · cases e2
    · injection e2 with e2 _ _
      injection e2 with e2
      injection e2 with e2
      subst e2
      exact ⟨k1, cur, k2⟩
theorem LIn.ir {W : World} {base : Nat} {ov v : Value} {l : List Int} (h : LIn W base ov v l) : IR W ov l := by
  rcases h with ⟨_, rfl, rfl⟩ | ⟨_, g, cap, rfl, hc, ho⟩
  · exact ir_nil W
  · obtain ⟨a', c', e, h1, h2⟩ := ho.ir
    injection e with e1 e2 e3
    refine ⟨_, cap, rfl, by omega, ?_⟩
    rcases h2 with h2 | ⟨g', o', e4, h2⟩
    · have := congrArg List.length h2; simp at this
    · rw [← e1] at e4
      refine .inr ⟨g', o', e4, fun j hj => ?_⟩
      have := h2 j (by simp; omega)
      rw [List.getElem_append_left hj] at this
      exact this
theorem own_cap {W : World} {base g N c : Nat} {k : List Int} (h : OwnI W base (.slice (some ⟨g, 0, none⟩) N c) k) : k.length ≤ c := by
  rcases h.2 with ⟨e, _⟩ | ⟨_, _, _, e, _, _, h1, _⟩
  · cases e
  · injection e with _ e2 e3
    omega
theorem nil29 (W : World) : (binOp .eql 29 (.slice none 0 0) (.slice none 0 0)).run Tryd.prog W = .ok (.bool true) W := by kernel_rfl
theorem some29 (W : World) (a : Addr) (n c : Nat) : (binOp .eql 29 (.slice (some a) n c) (.slice none 0 0)).run Tryd.prog W = .ok (.bool false) W := by kernel_rfl
theorem lentInts_nil (w : World) : Calls Tryd.prog 10 #[.slice none 0 0] w fun e w' => e = .returned (.slice none 0 0) ∧ w' = w := by
  have he := nil29
  go_enter Tryd.func10, Tryd.ntmps10
  go_wp2
  go_ret
  exact ⟨rfl, rfl⟩
set_option maxHeartbeats 2000000 in
theorem lentInts_some (ad : Addr) (c : Nat) (l : List Int) (w : World) (hr : IR w (.slice (some ad) l.length c) l) (hn : l.length ≤ 1048576) :
    Calls Tryd.prog 10 #[.slice (some ad) l.length c] w fun e w' => ∃ ov, e = .returned ov ∧ LIn w' w.heap.size ov (.slice (some ad) l.length c) l ∧ Below w.heap.size w w' := by
  have he := some29
  obtain ⟨n, hnn⟩ : ∃ n, l.length = n := ⟨_, rfl⟩
  have HN : Hid (l.length = n) := hnn
  have HR : Hid (∀ ob, IR (w.alloc ob) (.slice (some ad) n c) l) := fun ob => by rw [hnn] at hr; exact hr.grown ((Grown.refl _).alloc ob)
  rw [hnn] at hn ⊢
  have hnI : (n : Int) ≤ 1048576 := by omega
  have hn0 : (0 : Int) ≤ (n : Int) := by omega
  clear hr hnn
  go_enter Tryd.func10, Tryd.ntmps10
  go_wp2_with (at_builtin; go_must (first
    | (refine app_I rfl _ _ 29 rfl Tryd.underlying29 w.heap.size _ [] l l rfl rfl (own_emptyI w) (by intro e; cases e) ad n c rfl (HR.out _) (by rw [HN.out]; simp; omega) (by rw [size_up]; omega) ?_; intro g1 N1 c1 w1 hN1 hO1 hB1; rw [HN.out] at hN1; obtain rfl : n = N1 := hN1.symm)
    | (refine app_I rfl _ _ 29 rfl Tryd.underlying29 w.heap.size (.slice (some ⟨g1, 0, none⟩) n c1) l [-71, -72] (l ++ [-71, -72]) rfl rfl (hO1.alloc _) (by intro e; cases e) ⟨w1.heap.size, 0, none⟩ 2 2 rfl (ir_two (heap_alloc_new _ _)) (by rw [HN.out]; simp; omega) (by have := hB1.size; rw [size_up] at this; rw [size_up]; omega) ?_; intro g2 N2 c2 w2 hN2 hO2 hB2; have hcc := own_cap hO2; rw [List.length_append, HN.out] at hN2 hcc; obtain rfl : N2 = n + 2 := hN2; have hcI : (n : Int) ≤ (c2 : Int) := Int.ofNat_le.2 (Nat.le_trans (Nat.le_add_right _ _) hcc))))
  go_ret
  refine ⟨_, rfl, .inr ⟨⟨ad, c, by rw [HN.out]⟩, g2, c2, by rw [HN.out]; rfl, by rw [HN.out]; exact hcc, by rw [HN.out]; exact hO2⟩, ?_⟩
  exact (below_up (((Below.refl _ w).alloc (Nat.le_refl _) _).trans hB1) (Nat.le_refl _) _).trans hB2
theorem lentInts_any (v : Value) (l : List Int) (w : World) (hr : IR w v l) (hN : v = .slice none 0 0 ∨ ∃ ad n c, v = .slice (some ad) n c) (hn : l.length ≤ 1048576) :
    Calls Tryd.prog 10 #[v] w fun e w' => ∃ ov, e = .returned ov ∧ LIn w' w.heap.size ov v l ∧ Below w.heap.size w w' := by
  rcases hN with rfl | ⟨ad, n, c, rfl⟩
  · obtain rfl : l = [] := List.eq_nil_of_length_eq_zero (ir_leng hr).symm
    refine (lentInts_nil w).mono ?_
    rintro e w' ⟨rfl, rfl⟩
    exact ⟨_, rfl, .inl ⟨rfl, rfl, rfl⟩, Below.refl _ _⟩
  · obtain rfl := ir_leng hr
    exact lentInts_some ad c l w hr hn
theorem stillInts_nil (w : World) : Calls Tryd.prog 17 #[.slice none 0 0, .slice none 0 0] w fun e w' => e = .returned (.bool true) ∧ w' = w := by
  have he := nil29
  go_enter Tryd.func17, Tryd.ntmps17
  go_wp2
  go_ret
  exact ⟨rfl, rfl⟩
/-- how far the numbers are written over -/
structure SI (w : World) (base g cap : Nat) (W : World) : Prop where
  but : ButO (some g) w W
  blk : ∃ cur, W.heap[g]? = some (.cells cur 3 (0, 0)) ∧ cur.size = cap
  bl : Below base w W
theorem SI.set {w W : World} {base g cap j : Nat} {u : Value} (h : SI w base g cap W) (hg : base ≤ g) : SI w base g cap (W.setCell ⟨g, j, none⟩ u) := by
  obtain ⟨h1, ⟨cur, h2, h3⟩, h4⟩ := h
  refine ⟨fun b hb o ho => ?_, ⟨_, cells_setS h2, by simpa using h3⟩, h4.setCell hg _⟩
  show (W.heap.modify g _)[b]? = _
  rw [Array.getElem?_modify, if_neg (fun e => hb (by rw [e]))]
  exact h1 b hb o ho
theorem SI.grown {w W W' : World} {base g cap : Nat} (h : SI w base g cap W) (hb : base ≤ W.heap.size) (hg : Grown W W') : SI w base g cap W' := by
  obtain ⟨h1, ⟨cur, h2, h3⟩, h4⟩ := h
  have hk : ∀ {b : Nat} {o : Obj}, W.heap[b]? = some o → W'.heap[b]? = some o := fun {b _} h5 => (hg.below.block b (Array.getElem?_eq_some_iff.1 h5).1).trans h5
  exact ⟨fun b hb o ho => hk (h1 b hb o ho), ⟨cur, hk h2, h3⟩, h4.trans (hg.below.mono hb)⟩
theorem SI.cell {w W : World} {base g cap k : Nat} (h : SI w base g cap W) (hk : k < cap) : (∃ x, W.cell? ⟨g, k, none⟩ = some x) ∧ W.frozen? ⟨g, k, none⟩ = false := by
  obtain ⟨_, ⟨cur, h2, h3⟩, _⟩ := h
  refine ⟨⟨cur[k]'(by omega), ?_⟩, by simp [World.frozen?, h2]⟩
  rw [cell_of h2, Array.getElem?_eq_getElem (by omega)]
set_option maxHeartbeats 4000000 in
theorem stillInts_some (g cap base : Nat) (ad : Addr) (c : Nat) (l : List Int) (w : World) (hr : IR w (.slice (some ad) l.length c) l) (hc : l.length + 2 ≤ cap) (ho : OwnI w base (.slice (some ⟨g, 0, none⟩) (l.length + 2) cap) (l ++ [-71, -72])) (hn : l.length ≤ 1048576) :
    Calls Tryd.prog 17 #[.slice (some ⟨g, 0, none⟩) l.length cap, .slice (some ad) l.length c] w fun e w' => e = .returned (.bool true) ∧ Below base w w' ∧ ButO (some g) w w' ∧ ∃ cur, w.heap[g]? = some (Obj.cells cur 3 (0, 0)) ∧ ∃ cur', w'.heap[g]? = some (Obj.cells cur' 3 (0, 0)) ∧ cur'.size = cur.size := by
  have he := some29
  obtain ⟨n, hnn⟩ : ∃ n, l.length = n := ⟨_, rfl⟩
  have HN : Hid (l.length = n) := hnn
  have HR : Hid (IR w (.slice (some ad) n c) l) := by rw [hnn] at hr; exact hr
  have HOc : Hid (∀ j x, (l ++ [-71, -72])[j]? = some x → w.cell? ⟨g, j, none⟩ = some (.int .i64 x)) := fun j x hx => by
    have := World.ownsRow.cells ho rfl j (.int .i64 x) (by unfold ints; rw [List.getElem?_map, hx]; rfl)
    rwa [add_zero_at] at this
  have HSI : Hid (base ≤ g ∧ SI w base g cap w) := by
    rcases ho.2 with ⟨e, _⟩ | ⟨g', cap', cur, e, k1, k2, k3, k4, k5, _⟩
    · cases e
    · injection e with e1 e2 e3
      injection e1 with e1
      injection e1 with e1
      subst e1 e3
      exact ⟨k1, fun _ _ _ h => h, ⟨cur, k2, by omega⟩, Below.refl _ _⟩
  rw [hnn] at hn hc ⊢
  have hnI : (n : Int) ≤ 1048576 := by omega
  have hn0 : (0 : Int) ≤ (n : Int) := by omega
  have hcI : (n : Int) + 2 ≤ (cap : Int) := by omega
  have m0 := HOc.out n (-71) (by rw [← hnn]; simp)
  have m1 := HOc.out (n + 1) (-72) (by rw [← hnn]; simp)
  have HBs : Hid (base ≤ w.heap.size) := by
    obtain ⟨cur, h2, _⟩ := HSI.out.2.blk
    have := (Array.getElem?_eq_some_iff.1 h2).1
    exact Nat.le_of_lt (Nat.lt_of_le_of_lt HSI.out.1 this)
  clear hr hnn ho
  go_enter Tryd.func17, Tryd.ntmps17
  go_wp2
  clear m0 m1
  go_loopw [6, 33] (fun v6 vi wr => ∃ k : Nat, vi = .int .i64 k ∧ v6 = .bool true ∧ k ≤ n ∧ Grown w wr) (fun _ vi _ => n - (intOf vi).toNat)
  case atStart => exact ⟨0, rfl, rfl, by omega, Grown.refl _⟩
  case round =>
    obtain ⟨k, rfl, rfl, hk, hG⟩ := hrel
    have hk0 : (0 : Int) ≤ (k : Int) := by omega
    by_cases hlt : k < n
    · as_aux_lemma =>
        have hlt' : (k : Int) < (n : Int) := by omega
        have hlt2 : (k : Int) < (n : Int) + 2 := by omega
        have hkl : k < l.length := by rw [HN.out]; exact hlt
        obtain ⟨gg, oo, hh⟩ := ir_addr HR.out (fun e => by rw [e] at hkl; simp at hkl)
        injection hh with hh
        subst hh
        obtain ⟨a', c', e', _, hcl⟩ := HR.out
        injection e' with e1 e2 e3
        clear e2 e3
        obtain ⟨g', o', ha', hcl2⟩ := hcl.resolve_left (fun e => by rw [e] at hkl; simp at hkl)
        rw [ha'] at e1
        injection e1 with e1
        injection e1 with e1 e2
        subst e1 e2
        have q0 := fun q os => (hG.quiet q os).cellv (hcl2 k hkl)
        have q1 := fun q os => (hG.quiet q os).cellv (HOc.out k l[k] (by rw [List.getElem?_append_left hkl, List.getElem?_eq_getElem hkl]))
        generalize l[k] = x at q0 q1
        have hxx : (x == x) = true := by simp
        clear hcl hcl2 ha'
        go_wp2
        refine wp_region_quiet_grown mixed (by kernel_rfl) ?_
        repeat (go_big_quiet_step (fail))
        refine wpQuiet_nil ?_
        intro _ hw'
        obtain ⟨⟨nq, osq⟩, hw''⟩ := hw'
        subst hw''
        go_wp2
        exact ⟨⟨k + 1, by go_num, rfl, by omega, hG.quiet _ _⟩, by simp [intOf]; omega⟩
    · have hge : ¬ (k : Int) < (n : Int) := by omega
      have HS1 : Hid (SI w base g cap wr) := HSI.out.2.grown HBs.out hG
      have HBg : Hid (base ≤ g) := HSI.out.1
      have HIn : Hid (∃ cur, w.heap[g]? = some (Obj.cells cur 3 (0, 0)) ∧ cur.size = cap) := HSI.out.2.blk
      clear HSI HOc HR
      go_wp2
      go_loopw [51] (fun vi wx => ∃ j : Nat, vi = .int .i64 j ∧ j ≤ n + 2 ∧ Hid (SI w base g cap wx)) (fun vi _ => n + 2 - (intOf vi).toNat)
      case atStart => exact ⟨0, rfl, by omega, HS1⟩
      case round =>
        obtain ⟨j, rfl, hj, HS⟩ := hrel
        have hj0 : (0 : Int) ≤ (j : Int) := by omega
        by_cases hjl : j < n + 2
        · as_aux_lemma =>
            have hjI : (j : Int) < (n : Int) + 2 := by omega
            obtain ⟨⟨x, cx⟩, fx⟩ := HS.out.cell (k := j) (by omega)
            have HS2 : Hid (SI w base g cap (wr.setCell ⟨g, j, none⟩ (.int .i64 97))) := HS.out.set HBg.out
            clear HS HS1
            go_wp2
            exact ⟨⟨j + 1, by go_num, by omega, HS2⟩, by simp [intOf]; omega⟩
        · as_aux_lemma =>
            have hjI : ¬ (j : Int) < (n : Int) + 2 := by omega
            go_wp2
            go_ret
            obtain ⟨cu, hu1, hu2⟩ := HIn.out
            obtain ⟨cv, hv1, hv2⟩ := HS.out.blk
            exact ⟨rfl, HS.out.bl, HS.out.but, cu, hu1, cv, hv1, by omega⟩
theorem stillInts_any (ov v : Value) (base : Nat) (l : List Int) (w : World) (h : LIn w base ov v l) (hr : IR w v l) (hn : l.length ≤ 1048576) :
    Calls Tryd.prog 17 #[ov, v] w fun e w' => e = .returned (.bool true) ∧ Below base w w' ∧ ButO ov.ownBlock w w' ∧ ∀ b, ov.ownBlock = some b → ∃ cur, w.heap[b]? = some (Obj.cells cur 3 (0, 0)) ∧ ∃ cur', w'.heap[b]? = some (Obj.cells cur' 3 (0, 0)) ∧ cur'.size = cur.size := by
  rcases h with ⟨rfl, rfl, _⟩ | ⟨⟨ad, c, rfl⟩, g, cap, rfl, h3, h4⟩
  · refine (stillInts_nil w).mono ?_
    rintro e w' ⟨rfl, rfl⟩
    exact ⟨rfl, Below.refl _ _, fun _ _ _ h => h, fun b hb => by cases hb⟩
  · refine (stillInts_some g cap base ad c l w hr h3 h4 hn).mono ?_
    rintro e w' ⟨h5, h6, h7, h8⟩
    refine ⟨h5, h6, h7, fun b hb => ?_⟩
    injection hb with hb
    change g = b at hb
    subst hb
    exact h8
end Go.Proofs
