/-
  Rows that are lent.
-/
import Derived.RangeFuncNested
import Derived.RangeFuncBound
import Derived.RangeFuncCalls
import Derived.RangeFuncLeaves
import Derived.Shelf.Abstract
import Derived.Shelf.RegionOpen
import Derived.WalkKit
import Derived.WalkSpells
import Derived.WalkLawsBesides
import Derived.OwnWalkIn
import Derived.TacticsInMore
import Derived.LoopNIn
import Derived.LoopIn
import Derived.BigQuiet
import Derived.RegionIn
import Derived.Deep.QuietTactic
import Derived.Deep.RegionWith
import Derived.Lib.OthersKept
import Derived.Maps.AppendAt
import Derived.Lib.SmallJoins
import Derived.Shelf.SlSortCmp.QuietGrown
import Derived.Deep.LoopGhost
import Derived.Test.YtcfjdijmobgbpaaDoorTa
namespace Go.Proofs
open Go.RowKit Go.Shelf

set_option maxRecDepth 100000
attribute [local go_sem] Oper.semAt_some
attribute [local go_sem ↓] Go.wp_at_zero Go.wp_at_succ
/-- blocks of a type stay -/
def KT (t : TypeId) (W W' : World) : Prop := ∀ (b : Nat) (cs : Array Value) (m : Nat × Nat), W.heap[b]? = some (.cells cs t m) → W'.heap[b]? = some (.cells cs t m)
theorem KT.below {t : TypeId} {W W' : World} (h : Below W.heap.size W W') : KT t W W' := fun b _ _ hb => (h.block b (Array.getElem?_eq_some_iff.1 hb).1).trans hb
theorem own_kt {W W' : World} {base : Nat} {e : TypeId} {size n : Nat} {v : Value} {xs : List Value} (h : W.ownsRow base e size v n xs) (hg : W.grownBy W' v.ownBlock) {t : TypeId} (ht : e ≠ t) : KT t W W' := fun b cs m hb =>
  (hg.block b (Array.getElem?_eq_some_iff.1 hb).1 (fun er => by
    rcases h.2 with ⟨rfl, _⟩ | ⟨g, cap, cur, rfl, _, hgb, _⟩
    · simp [Value.ownBlock] at er
    · obtain rfl : g = b := by simpa [Value.ownBlock] using er.symm
      rw [hgb] at hb
      cases hb
      exact ht rfl)).trans hb
theorem own_kept_t {W W' : World} {base : Nat} {e : TypeId} {size n : Nat} {v : Value} {xs : List Value} (h : W.ownsRow base e size v n xs) (k : KT e W W') : W'.ownsRow base e size v n xs := by
  refine ⟨h.1, ?_⟩
  rcases h.2 with h | ⟨g, cap, cur, e1, h1, h2, h3⟩
  · exact .inl h
  · exact .inr ⟨g, cap, cur, e1, h1, k _ _ _ h2, h3⟩
theorem LS.kt {W W' : World} {base : Nat} {ov sv : Value} {l : List (Int × Int)} (h : LS W base ov sv l) (k : KT 70 W W') : LS W' base ov sv l := by
  rcases h with h | ⟨h1, g, cap, h2, h3, h4⟩
  · exact .inl h
  · exact .inr ⟨h1, g, cap, h2, h3, own_kept_t h4 k⟩
/-- a row of sets that came in, value by value -/
structure SRv (w : World) (v : Value) (svs : List Value) (ls : List (List (Int × Int))) : Prop where
  len : svs.length = ls.length
  el : ∀ (j : Nat) (h1 : j < svs.length) (h2 : j < ls.length), Rs w svs[j] ls[j] ∧ NilOk svs[j]
  nil : NilOk v
  cell : ∃ a cap, v = .slice a ls.length cap ∧ ls.length ≤ cap ∧ (ls = [] ∨ ∃ g o, a = some ⟨g, o, none⟩ ∧ ∀ (j : Nat) (h : j < svs.length), w.cell? ⟨g, o + j, none⟩ = some svs[j])
theorem SRv.below {w w' : World} {n : Nat} {v : Value} {svs : List Value} {ls : List (List (Int × Int))} (h : SRv w v svs ls) (hb : Below n w w') (hn : w.heap.size ≤ n) : SRv w' v svs ls := by
  obtain ⟨h1, h2, h3, a, cap, h4, h5, h6⟩ := h
  refine ⟨h1, fun j a b => ⟨(h2 j a b).1.below hb hn, (h2 j a b).2⟩, h3, a, cap, h4, h5, h6.imp id ?_⟩
  rintro ⟨g, o, e, h⟩
  exact ⟨g, o, e, fun j hj => cell_below (h j hj) hb hn⟩
theorem SRv.grown {w w' : World} {v : Value} {svs : List Value} {ls : List (List (Int × Int))} (h : SRv w v svs ls) (k : Grown w w') : SRv w' v svs ls := h.below k.below (Nat.le_refl _)
theorem SRv.sr {w : World} {v : Value} {svs : List Value} {ls : List (List (Int × Int))} (h : SRv w v svs ls) : SR w v ls := by
  obtain ⟨h1, h2, _, a, cap, h4, h5, h6⟩ := h
  refine ⟨a, cap, h4, h5, h6.imp id ?_⟩
  rintro ⟨g, o, e, h⟩
  exact ⟨g, o, e, fun j hj => ⟨svs[j]'(by omega), h j (by omega), (h2 j (by omega) hj).1⟩⟩
/-- a row of sets that was lent -/
def LR (W : World) (base : Nat) (ov v : Value) (svs : List Value) (ls : List (List (Int × Int))) : Prop :=
  (v = .slice none 0 0 ∧ ov = .slice none 0 0 ∧ ls = []) ∨ ((∃ ad c, v = .slice (some ad) ls.length c) ∧ ∃ g cap ovs gm, ov = .slice (some ⟨g, 0, none⟩) ls.length cap ∧ ls.length + 1 ≤ cap ∧ ovs.length = ls.length ∧ W.ownsRow base 51 1 (.slice (some ⟨g, 0, none⟩) (ls.length + 1) cap) (ls.length + 1) (ovs ++ [.slice (some ⟨gm, 0, none⟩) 1 1]) ∧ W.cell? ⟨gm, 0, none⟩ = some (.int .i64 (-8)) ∧ base ≤ gm ∧ ∀ (j : Nat) (h1 : j < ovs.length) (h2 : j < svs.length) (h3 : j < ls.length), LS W base ovs[j] svs[j] ls[j])
theorem ownsRow_below {W W' : World} {base n : Nat} {e : TypeId} {size m : Nat} {v : Value} {xs : List Value} (h : W.ownsRow base e size v m xs) (hb : Below n W W') (hn : W.heap.size ≤ n) : W'.ownsRow base e size v m xs := by
  refine ⟨h.1, ?_⟩
  rcases h.2 with h | ⟨g, cap, cur, e1, h1, h2, h3⟩
  · exact .inl h
  · have : g < W.heap.size := (Array.getElem?_eq_some_iff.1 h2).1
    exact .inr ⟨g, cap, cur, e1, h1, (hb.block g (by omega)).trans h2, h3⟩
theorem LR.below {W W' : World} {base n : Nat} {ov v : Value} {svs : List Value} {ls : List (List (Int × Int))} (h : LR W base ov v svs ls) (hb : Below n W W') (hn : W.heap.size ≤ n) : LR W' base ov v svs ls := by
  rcases h with h | ⟨h1, g, cap, ovs, gm, h2, h3, h4, h5, h6, hgm, h7⟩
  · exact .inl h
  · exact .inr ⟨h1, g, cap, ovs, gm, h2, h3, h4, ownsRow_below h5 hb hn, cell_below h6 hb hn, hgm, fun j a b c => (h7 j a b c).below hb hn⟩
theorem LR.le {W : World} {base base' : Nat} {ov v : Value} {svs : List Value} {ls : List (List (Int × Int))} (h : LR W base ov v svs ls) (hb : base' ≤ base) : LR W base' ov v svs ls := by
  rcases h with h | ⟨h1, g, cap, ovs, gm, h2, h3, h4, h5, h6, hgm, h7⟩
  · exact .inl h
  · exact .inr ⟨h1, g, cap, ovs, gm, h2, h3, h4, Joins.ownsRow_le h5 hb, h6, Nat.le_trans hb hgm, fun j a b c => (h7 j a b c).le hb⟩
theorem LR.sl {W : World} {base : Nat} {ov v : Value} {svs : List Value} {ls : List (List (Int × Int))} (h : LR W base ov v svs ls) : IsSl ov := by
  rcases h with ⟨_, h, _⟩ | ⟨_, g, cap, _, _, h, _⟩
  · exact ⟨_, _, _, h⟩
  · exact ⟨_, _, _, h⟩
theorem own_cell {W : World} {base : Nat} {e : TypeId} {n c g : Nat} {xs : List Value} (h : W.ownsRow base e 1 (.slice (some ⟨g, 0, none⟩) n c) n xs) {j : Nat} {u : Value} (hj : xs[j]? = some u) : W.cell? ⟨g, j, none⟩ = some u := by
  have := World.ownsRow.cells h rfl j u hj
  rwa [add_zero_at] at this
theorem LR.sr {W : World} {base : Nat} {ov v : Value} {svs : List Value} {ls : List (List (Int × Int))} (h : LR W base ov v svs ls) (hl : svs.length = ls.length) : SR W ov ls := by
  rcases h with ⟨_, rfl, rfl⟩ | ⟨_, g, cap, ovs, gm, rfl, h3, h4, h5, _, _, h7⟩
  · exact ⟨none, 0, rfl, Nat.le_refl _, .inl rfl⟩
  · refine ⟨_, cap, rfl, by omega, .inr ⟨g, 0, rfl, fun j hj => ?_⟩⟩
    refine ⟨ovs[j]'(by omega), ?_, (h7 j (by omega) (by omega) hj).rs⟩
    rw [Nat.zero_add]
    exact own_cell h5 (by rw [List.getElem?_append_left (by omega)]; exact List.getElem?_eq_getElem (by omega))
theorem sinfo51 : (Tryd.prog.info? 51).map (fun i => (i.zero, i.size, i.bytes)) = some (some (.slice none 0 0), 1, 24) := by kernel_rfl
theorem nil22 (W : World) : (binOp .eql 22 (.slice none 0 0) (.slice none 0 0)).run Tryd.prog W = .ok (.bool true) W := by kernel_rfl
theorem some22 (W : World) (a : Addr) (n c : Nat) : (binOp .eql 22 (.slice (some a) n c) (.slice none 0 0)).run Tryd.prog W = .ok (.bool false) W := by kernel_rfl
/-- one set more behind a row of the call's own -/
theorem app_S {ops : Array Oper} {rest : List Oper} {o : Oper} {a : Act} {Q : Exit → Act → World → Prop} {w : World} (hgd : o.guard = none) (s x : Operand)
    (ho : o.op = .call { callee := .builtin .append, args := #[s, x], argTypes := #[22, 22] }) (base : Nat) (v : Value) (n : Nat) (vs : List Value) (hn : vs.length = n) (hs : a.eval s = v) (hown : w.ownsRow base 51 1 v n vs) (hv : v ≠ .slice none 0 0) (gs c : Nat) (sv : Value) (hx : a.eval x = .slice (some ⟨gs, 0, none⟩) 1 c)
    (hc : w.cell? ⟨gs, 0, none⟩ = some sv) (hsl : IsSl sv) (hl : n ≤ 2000000) (hbase : base ≤ w.heap.size)
    (h : ∀ g cap w', n + 1 ≤ cap → w'.ownsRow base 51 1 (.slice (some ⟨g, 0, none⟩) (n + 1) cap) (n + 1) (vs ++ [sv]) → KT 70 w w' → Below base w w' → wpList Tryd.prog ops Q rest (a.put o.dst (.slice (some ⟨g, 0, none⟩) (n + 1) cap)) w') : wpList Tryd.prog ops Q (o :: rest) a w := by
  obtain ⟨i0, hi, hz0, hz1, hz2⟩ := info_parts sinfo51
  subst hn
  refine wpList_append_own w hgd s x 22 ho base 51 i0 (.slice none 0 0) 1 24 Tryd.underlying22 hi hz0 hz1 hz2 rfl (by decide) v vs.length vs hs hown ⟨gs, 0, none⟩ 1 c [sv] hx rfl ?_ ?_ (by unfold maxLen; omega) (by omega) hbase (fun v' w' h2 h3 h4 => ?_)
  · intro j u hj
    cases j with
    | zero => simp at hj; subst hj; rw [add_zero_at]; exact hc
    | succ j => simp at hj
  · intro u hu
    simp at hu
    subst hu
    obtain ⟨A, n, c, rfl⟩ := hsl
    rfl
  · rcases h2.2 with ⟨e, _⟩ | ⟨g, cap, cur, e, _, _, hcp, _⟩
    · exact absurd (h4.1 e).1 hv
    · subst e
      exact h g cap w' hcp h2 (own_kt hown h3 (by decide)) ((Below.refl _ w).grown h3 hbase (fun k hk => (World.ownsRow.lt hown k hk).1))
theorem lentRow_nil (w : World) : Calls Tryd.prog 29 #[.slice none 0 0] w fun e w' => e = .returned (.slice none 0 0) ∧ w' = w := by
  have he := nil22
  go_enter Tryd.func29, Tryd.ntmps29
  go_wp2
  go_ret
  exact ⟨rfl, rfl⟩
/-- how far lentRow is -/
def LI2 (w : World) (svs : List Value) (ls : List (List (Int × Int))) (k : Nat) (va : Value) (W : World) : Prop :=
  ∃ ovs : List Value, ovs.length = k ∧ va ≠ .slice none 0 0 ∧ W.ownsRow w.heap.size 51 1 va k ovs ∧ (∀ (j : Nat) (h1 : j < ovs.length) (h2 : j < svs.length) (h3 : j < ls.length), LS W w.heap.size ovs[j] svs[j] ls[j]) ∧ Below w.heap.size w W
set_option maxHeartbeats 4000000 in
theorem lentRow_some (ad : Addr) (c : Nat) (svs : List Value) (ls : List (List (Int × Int))) (w : World) (hr : SRv w (.slice (some ad) ls.length c) svs ls) (hn : ls.length ≤ 1048576) (hs : ∀ l ∈ ls, l.length ≤ 1048576) :
    Calls Tryd.prog 29 #[.slice (some ad) ls.length c] w fun e w' => ∃ ov, e = .returned ov ∧ LR w' w.heap.size ov (.slice (some ad) ls.length c) svs ls ∧ Below w.heap.size w w' := by
  have he := some22
  obtain ⟨n, hnn⟩ : ∃ n, ls.length = n := ⟨_, rfl⟩
  have HN : Hid (ls.length = n) := hnn
  have HR : Hid (SRv w (.slice (some ad) n c) svs ls) := by rw [hnn] at hr; exact hr
  have HSm : Hid (∀ l ∈ ls, l.length ≤ 1048576) := hs
  rw [hnn] at hn ⊢
  have hnI : (n : Int) ≤ 1048576 := by omega
  have HS0 : Hid (LI2 w svs ls 0 (.slice (some ⟨w.heap.size, 0, none⟩) 0 0) (w.alloc (.cells #[] 51))) := ⟨[], rfl, (by intro e; cases e), ⟨rfl, .inr ⟨w.heap.size, 0, #[], rfl, Nat.le_refl _, heap_alloc_new w _, Nat.le_refl _, Nat.zero_le _, rfl, rfl⟩⟩, fun j h => by simp at h, (Below.refl _ w).alloc (Nat.le_refl _) _⟩
  clear hr hnn hs
  go_enter Tryd.func29, Tryd.ntmps29
  go_wp2
  go_loopw [3, 11] (fun sa vi wr => ∃ (va : Value) (k : Nat), va = sa ∧ vi = .int .i64 k ∧ k ≤ n ∧ Hid (LI2 w svs ls k va wr)) (fun _ vi _ => n - (intOf vi).toNat)
  case atStart => exact ⟨_, 0, rfl, rfl, Nat.zero_le _, HS0⟩
  case round =>
    obtain ⟨va, k, rfl, rfl, hk, HG⟩ := hrel
    have hpos : (0 : Int) ≤ (k : Int) := by omega
    have hkI : (k : Int) ≤ 1048576 := by omega
    clear HS0
    by_cases hlt : k < n
    · have hlt' : (k : Int) < (n : Int) := by omega
      have hkl : k < ls.length := by rw [HN.out]; exact hlt
      obtain ⟨ovs, g1, g2, g3, g4, g5⟩ := HG.out
      have hW := HR.out.below g5 (Nat.le_refl _)
      have hks : k < svs.length := by rw [hW.len]; exact hkl
      obtain ⟨a', c', e', _, hcl⟩ := hW.cell
      obtain ⟨gg, oo, ha', hcl2⟩ := hcl.resolve_left (fun e => by rw [e] at hkl; simp at hkl)
      injection e' with e1 e2 e3
      clear e2 e3
      rw [ha'] at e1
      injection e1 with e1
      subst e1
      have hck := hcl2 k hks
      have hel := hW.el k hks hkl
      obtain ⟨sa, sn, sc, hsv⟩ : IsSl svs[k] := hel.1.sl
      have HC : Hid (Calls Tryd.prog 56 #[svs[k]] wr fun e w' => ∃ ov, e = .returned ov ∧ LS w' wr.heap.size ov svs[k] ls[k] ∧ Below wr.heap.size wr w') := lentSet_any _ _ wr hel.1 hel.2 (HSm.out _ (List.getElem_mem hkl))
      have HSV : Hid (svs[k] = .slice sa sn sc) := hsv
      rw [hsv] at hck HC
      have HL : Hid (∀ ov, LS wr wr.heap.size ov (.slice sa sn sc) ls[k] → True) := fun _ _ => trivial
      clear hcl hcl2 hel hsv hW ha' HL
      go_wp2_with fail
      refine HC.out.mono ?_
      rintro e w4 ⟨ov, rfl, hLS, hb4⟩
      obtain ⟨oa, on, oc, hov⟩ := hLS.sl
      subst hov
      have HLS : Hid (LS w4 wr.heap.size (.slice oa on oc) svs[k] ls[k]) := by rw [HSV.out]; exact hLS
      have HP : Hid (∀ ob, (w4.alloc ob).ownsRow w.heap.size 51 1 va k ovs ∧ w.heap.size ≤ (w4.alloc ob).heap.size) := fun ob => ⟨ownsRow_below (ownsRow_below g3 hb4 (Nat.le_refl _)) ((Below.refl _ w4).alloc (Nat.le_refl _) ob) (Nat.le_refl _), by rw [World.size_alloc]; have := hb4.size; have := g5.size; omega⟩
      have HQ : Hid (∀ ob, Below w.heap.size w (w4.alloc ob) ∧ (∀ (j : Nat) (h1 : j < ovs.length) (h2 : j < svs.length) (h3 : j < ls.length), LS (w4.alloc ob) w.heap.size ovs[j] svs[j] ls[j])) := fun ob => ⟨(g5.trans (hb4.mono g5.size)).alloc (by have := hb4.size; have := g5.size; omega) ob, fun j a b c => ((g4 j a b c).below hb4 (Nat.le_refl _)).below ((Below.refl _ w4).alloc (Nat.le_refl _) ob) (Nat.le_refl _)⟩
      have HV : Hid (va ≠ .slice none 0 0) := g2
      have HOl : Hid (ovs.length = k) := g1
      have HSz : Hid (w.heap.size ≤ wr.heap.size) := g5.size
      clear hLS g1 g2 g3 g4 g5 hb4 HC HG
      go_wp2_with (at_builtin; go_must (refine app_S rfl _ _ rfl w.heap.size _ k ovs HOl.out rfl (HP.out _).1 HV.out _ _ (.slice oa on oc) rfl (cell_new rfl rfl) ⟨_, _, _, rfl⟩ (by omega) (HP.out _).2 ?_; intro gn cn w5 hcn hO5 hK5 hB5))
      go_roundw
      case rel =>
        refine ⟨_, k + 1, rfl, by simp, hlt, ovs ++ [.slice oa on oc], by simp [HOl.out], (by intro e; cases e), hO5, fun j h1 h2 h3 => ?_, (HQ.out _).1.trans hB5⟩
        by_cases hj : j < ovs.length
        · rw [List.getElem_append_left hj]
          exact ((HQ.out _).2 j hj h2 h3).kt hK5
        · have hj2 : j = k := by simp at h1; have := HOl.out; omega
          subst hj2
          have e2 : (ovs ++ [Value.slice oa on oc])[j]'h1 = .slice oa on oc := by simp [← HOl.out]
          rw [e2]
          exact ((HLS.out.le HSz.out).below ((Below.refl _ w4).alloc (Nat.le_refl _) _) (Nat.le_refl _)).kt hK5
      case measure => simp [intOf]; omega
    · have hge : ¬ (k : Int) < (n : Int) := by omega
      obtain rfl : k = n := by omega
      obtain ⟨ovs, g1, g2, g3, g4, g5⟩ := HG.out
      have HV : Hid (va ≠ .slice none 0 0) := g2
      have HSz : Hid (w.heap.size ≤ wr.heap.size) := g5.size
      have HOl : Hid (ovs.length = k) := g1
      have HP : Hid (∀ ob ob2, ((wr.alloc ob).alloc ob2).ownsRow w.heap.size 51 1 va k ovs ∧ w.heap.size ≤ ((wr.alloc ob).alloc ob2).heap.size ∧ Below w.heap.size w ((wr.alloc ob).alloc ob2) ∧ (∀ (j : Nat) (h1 : j < ovs.length) (h2 : j < svs.length) (h3 : j < ls.length), LS ((wr.alloc ob).alloc ob2) w.heap.size ovs[j] svs[j] ls[j])) := fun ob ob2 => by
        have hb : Below wr.heap.size wr ((wr.alloc ob).alloc ob2) := (((Grown.refl wr).alloc ob).alloc ob2).below
        exact ⟨ownsRow_below g3 hb (Nat.le_refl _), Nat.le_trans g5.size hb.size, g5.trans (hb.mono g5.size), fun j a b c => (g4 j a b c).below hb (Nat.le_refl _)⟩
      clear g1 g2 g3 g4 g5 HG
      have hcm : ∀ ob2, ((wr.alloc (.cells #[.int .i64 (-8), .int .i64 (-8)] 70)).alloc ob2).heap[wr.heap.size]? = some (.cells #[.int .i64 (-8), .int .i64 (-8)] 70 (0, 0)) := fun ob2 => by
        have h1 := heap_alloc_new wr (.cells #[.int .i64 (-8), .int .i64 (-8)] 70)
        exact (((Below.refl _ (wr.alloc (.cells #[.int .i64 (-8), .int .i64 (-8)] 70))).alloc (Nat.le_refl _) ob2).block wr.heap.size (by rw [World.size_alloc]; exact Nat.lt_succ_self _)).trans h1
      have HCM : Hid (∀ ob2, ((wr.alloc (.cells #[.int .i64 (-8), .int .i64 (-8)] 70)).alloc ob2).heap[wr.heap.size]? = some (.cells #[.int .i64 (-8), .int .i64 (-8)] 70 (0, 0))) := hcm
      clear hcm
      go_wp2_with (at_builtin; go_must (refine app_S rfl _ _ rfl w.heap.size _ k ovs HOl.out rfl (HP.out _ _).1 HV.out _ _ (.slice (some ⟨wr.heap.size, 0, none⟩) 1 1) rfl (cell_new (by simp) rfl) ⟨_, _, _, rfl⟩ (by omega) (HP.out _ _).2.1 ?_; intro gn cn w5 hcn hO5 hK5 hB5; have hcnI : (k : Int) ≤ (cn : Int) := (by omega)))
      go_ret
      refine ⟨_, rfl, .inr ⟨⟨ad, c, by rw [HN.out]⟩, gn, cn, ovs, wr.heap.size, by rw [HN.out]; rfl, by rw [HN.out]; exact hcn, by rw [HN.out]; exact HOl.out, by rw [HN.out]; exact hO5, ?_, HSz.out, fun j h1 h2 h3 => ((HP.out _ _).2.2.2 j h1 h2 h3).kt hK5⟩, (HP.out _ _).2.2.1.trans hB5⟩
      have := hK5 _ _ _ (HCM.out _)
      simp [World.cell?, this]
theorem lentRow_any (v : Value) (svs : List Value) (ls : List (List (Int × Int))) (w : World) (hr : SRv w v svs ls) (hn : ls.length ≤ 1048576) (hs : ∀ l ∈ ls, l.length ≤ 1048576) :
    Calls Tryd.prog 29 #[v] w fun e w' => ∃ ov, e = .returned ov ∧ LR w' w.heap.size ov v svs ls ∧ Below w.heap.size w w' := by
  rcases hr.nil with rfl | ⟨ad, n, c, rfl⟩
  · obtain rfl : ls = [] := by
      obtain ⟨a, c, e, _⟩ := hr.cell
      injection e with _ e2 _
      exact List.eq_nil_of_length_eq_zero e2.symm
    refine (lentRow_nil w).mono ?_
    rintro e w' ⟨rfl, rfl⟩
    exact ⟨_, rfl, .inl ⟨rfl, rfl, rfl⟩, Below.refl _ _⟩
  · obtain rfl : n = ls.length := by
      obtain ⟨a, c, e, _⟩ := hr.cell
      injection e with _ e2 _
    exact lentRow_some ad c svs ls w hr hn hs
set_option maxHeartbeats 2000000 in
theorem stillRow_nil (w : World) : Calls Tryd.prog 35 #[.slice none 0 0, .slice none 0 0] w fun e w' => e = .returned (.bool true) ∧ Grown w w' := by
  have he := nil22
  go_enter Tryd.func35, Tryd.ntmps35
  go_wp2
  go_loopw [14] (fun vi wr => vi = .int .i64 0 ∧ wr = w) (fun _ _ => 0)
  case atStart => exact ⟨rfl, rfl⟩
  case round =>
    obtain ⟨rfl, rfl⟩ := hrel
    go_wp2
    go_ret
    exact ⟨rfl, Grown.refl _⟩
set_option maxHeartbeats 4000000 in
theorem stillRow_some (g gm cap : Nat) (ad : Addr) (c base : Nat) (ovs svs : List Value) (ls : List (List (Int × Int))) (w : World) (hr : SRv w (.slice (some ad) ls.length c) svs ls) (hc : ls.length + 1 ≤ cap) (hol : ovs.length = ls.length)
    (ho : w.ownsRow base 51 1 (.slice (some ⟨g, 0, none⟩) (ls.length + 1) cap) (ls.length + 1) (ovs ++ [.slice (some ⟨gm, 0, none⟩) 1 1])) (hm : w.cell? ⟨gm, 0, none⟩ = some (.int .i64 (-8))) (hL : ∀ (j : Nat) (h1 : j < ovs.length) (h2 : j < svs.length) (h3 : j < ls.length), LS w base ovs[j] svs[j] ls[j]) (hn : ls.length ≤ 1048576) (hs : ∀ l ∈ ls, l.length ≤ 1048576) :
    Calls Tryd.prog 35 #[.slice (some ⟨g, 0, none⟩) ls.length cap, .slice (some ad) ls.length c] w fun e w' => e = .returned (.bool true) ∧ Grown w w' := by
  have he := some22
  obtain ⟨n, hnn⟩ : ∃ n, ls.length = n := ⟨_, rfl⟩
  have HN : Hid (ls.length = n) := hnn
  have HR : Hid (SRv w (.slice (some ad) n c) svs ls) := by rw [hnn] at hr; exact hr
  have HSm : Hid (∀ l ∈ ls, l.length ≤ 1048576) := hs
  have HL : Hid (∀ (j : Nat) (h1 : j < ovs.length) (h2 : j < svs.length) (h3 : j < ls.length), LS w base ovs[j] svs[j] ls[j]) := hL
  have HOc : Hid (∀ (j : Nat) (h1 : j < ovs.length), w.cell? ⟨g, j, none⟩ = some ovs[j]) := fun j h1 => own_cell ho (by rw [List.getElem?_append_left h1]; exact List.getElem?_eq_getElem h1)
  have HOl : Hid (ovs.length = n) := by rw [← hnn]; exact hol
  have HMk : Hid (w.cell? ⟨g, n, none⟩ = some (.slice (some ⟨gm, 0, none⟩) 1 1) ∧ w.cell? ⟨gm, 0, none⟩ = some (.int .i64 (-8))) := ⟨own_cell ho (by rw [← hnn, ← hol]; simp), hm⟩
  rw [hnn] at hn hc ⊢
  have hnI : (n : Int) ≤ 1048576 := by omega
  have hcI : (n : Int) + 1 ≤ (cap : Int) := by omega
  have hm := mixed
  clear hr hnn hs hL ho hol
  go_enter Tryd.func35, Tryd.ntmps35
  go_wp2
  go_loopw [14] (fun vi wr => ∃ k : Nat, vi = .int .i64 k ∧ k ≤ n ∧ Grown w wr) (fun vi _ => n - (intOf vi).toNat)
  case atStart => exact ⟨0, rfl, by omega, Grown.refl _⟩
  case round =>
    obtain ⟨k, rfl, hk, hG⟩ := hrel
    have hpos : (0 : Int) ≤ (k : Int) := by omega
    by_cases hlt : k < n
    · as_aux_lemma =>
        have hlt' : (k : Int) < (n : Int) := by omega
        have hkl : k < ls.length := by rw [HN.out]; exact hlt
        have hko : k < ovs.length := by rw [HOl.out]; exact hlt
        have hW := HR.out.grown hG
        have hks : k < svs.length := by rw [hW.len]; exact hkl
        obtain ⟨a', c', e', _, hcl⟩ := hW.cell
        obtain ⟨gg, oo, ha', hcl2⟩ := hcl.resolve_left (fun e => by rw [e] at hkl; simp at hkl)
        injection e' with e1 e2 e3
        clear e2 e3
        rw [ha'] at e1
        injection e1 with e1
        subst e1
        have d2 := hcl2 k hks
        have d1 := hG.cellv (HOc.out k hko)
        have hLk := (HL.out k hko hks hkl).below hG.below (Nat.le_refl _)
        have hel := hW.el k hks hkl
        have HC : Hid (∀ W, Grown wr W → Calls Tryd.prog 61 #[ovs[k], svs[k]] W fun e w' => e = .returned (.bool true) ∧ Grown W w') := fun W hW2 => stillSet_any _ _ base ls[k] W (hLk.below hW2.below (Nat.le_refl _)) (hel.1.grown hW2) (HSm.out _ (List.getElem_mem hkl))
        obtain ⟨sa, sn, sc, hsv⟩ : IsSl svs[k] := hel.1.sl
        obtain ⟨ta, tn, tc, hov⟩ : IsSl ovs[k] := hLk.sl
        rw [hsv] at d2 HC
        rw [hov] at d1 HC
        have f1 : ∀ m os, (Go.Sort.grow (wr.drewN m) os).cell? ⟨g, k, none⟩ = some (.slice ta tn tc) := fun m os => ((Grown.refl _).quiet m os).cellv d1
        have f2 : ∀ m os, (Go.Sort.grow (wr.drewN m) os).cell? ⟨gg, oo + k, none⟩ = some (.slice sa sn sc) := fun m os => ((Grown.refl _).quiet m os).cellv d2
        clear d1 d2 hcl hcl2 hel hsv hov hW hLk ha'
        go_wp2
        refine wp_region_quiet_grown hm (by kernel_rfl) ?_
        repeat (go_big_quiet_step ((go_at_call 61; exact grown_of (HC.out _ ((Grown.refl _).quiet _ _)))))
        refine wpQuiet_nil ?_
        intro _ hw'
        obtain ⟨⟨nq, osq⟩, hw''⟩ := hw'
        subst hw''
        go_wp2
        exact ⟨⟨k + 1, by go_num, by omega, hG.quiet _ _⟩, by simp [intOf]; omega⟩
    · as_aux_lemma =>
        have hge : ¬ (k : Int) < (n : Int) := by omega
        have m0 := hG.cellv HMk.out.1
        have m1 := hG.cellv HMk.out.2
        go_wp2
        go_ret
        exact ⟨rfl, hG⟩
theorem stillRow_any (ov v : Value) (base : Nat) (svs : List Value) (ls : List (List (Int × Int))) (w : World) (h : LR w base ov v svs ls) (hr : SRv w v svs ls) (hn : ls.length ≤ 1048576) (hs : ∀ l ∈ ls, l.length ≤ 1048576) : Calls Tryd.prog 35 #[ov, v] w fun e w' => e = .returned (.bool true) ∧ Grown w w' := by
  rcases h with ⟨rfl, rfl, _⟩ | ⟨⟨ad, c, rfl⟩, g, cap, ovs, gm, rfl, h3, h4, h5, h6, _, h7⟩
  · exact stillRow_nil w
  · exact stillRow_some g gm cap ad c base ovs svs ls w hr h3 h4 h5 h6 h7 hn hs
end Go.Proofs
