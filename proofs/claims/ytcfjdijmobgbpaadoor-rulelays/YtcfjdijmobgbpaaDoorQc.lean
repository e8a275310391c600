/-
  All: whether all rules of a pass may be: ours and the document's.
-/
import Derived.RangeFuncNested
import Derived.RangeFuncBound
import Derived.RangeFuncCalls
import Derived.RangeFuncLeaves
import Derived.Shelf.Abstract
import Derived.Shelf.RegionOpen
import Derived.WalkKit
import Derived.WalkSpells
import Derived.WalkLawsBesides
import Derived.OwnWalkIn
import Derived.TacticsInMore
import Derived.LoopNIn
import Derived.LoopIn
import Derived.BigQuiet
import Derived.RegionIn
import Derived.Deep.QuietTactic
import Derived.Deep.RegionWith
import Derived.Lib.OthersKept
import Derived.Maps.AppendAt
import Derived.Lib.SmallJoins
import Derived.Shelf.SlSortCmp.QuietGrown
import Derived.Test.YtcfjdijmobgbpaaDoorQb
import Derived.Test.YtcfjdijmobgbpaaDoorYa
namespace Go.Proofs
open Go.RowKit Go.Shelf

set_option maxRecDepth 100000
attribute [local go_sem] Oper.semAt_some
attribute [local go_sem ↓] Go.wp_at_zero Go.wp_at_succ
/-- a rule that lies so -/
def RAt (w : World) (g o : Nat) (r : Rl) : Prop := ∃ av kv pv rv, w.cell? ⟨g, o, none⟩ = some (.bool r.bg) ∧ w.cell? ⟨g, o + 1, none⟩ = some av ∧ w.cell? ⟨g, o + 2, none⟩ = some kv ∧ w.cell? ⟨g, o + 3, none⟩ = some pv ∧ w.cell? ⟨g, o + 4, none⟩ = some (.bool r.en) ∧ w.cell? ⟨g, o + 5, none⟩ = some rv ∧ w.cell? ⟨g, o + 6, none⟩ = some (.int .i64 r.cu) ∧ RR w av kv pv rv r
theorem RAt.below {w w' : World} {n g o : Nat} {r : Rl} (h : RAt w g o r) (hb : Below n w w') (hn : w.heap.size ≤ n) : RAt w' g o r := by
  obtain ⟨av, kv, pv, rv, h0, h1, h2, h3, h4, h5, h6, h7⟩ := h
  exact ⟨av, kv, pv, rv, cell_below h0 hb hn, cell_below h1 hb hn, cell_below h2 hb hn, cell_below h3 hb hn, cell_below h4 hb hn, cell_below h5 hb hn, cell_below h6 hb hn, h7.below hb hn⟩
/-- a row of rules that reads so -/
def PsR (w : World) (v : Value) (rs : List Rl) : Prop :=
  ∃ (a : Option Addr) (cap : Nat), v = .slice a rs.length cap ∧ rs.length ≤ cap ∧ (rs = [] ∨ ∃ g o, a = some ⟨g, o, none⟩ ∧ ∀ (j : Nat) (hj : j < rs.length), RAt w g (o + j * 7) rs[j])
theorem PsR.below {w w' : World} {n : Nat} {v : Value} {rs : List Rl} (h : PsR w v rs) (hb : Below n w w') (hn : w.heap.size ≤ n) : PsR w' v rs := by
  obtain ⟨a, cap, h1, h2, h3 | ⟨g, o, h3, h4⟩⟩ := h
  · exact ⟨a, cap, h1, h2, .inl h3⟩
  · exact ⟨a, cap, h1, h2, .inr ⟨g, o, h3, fun j hj => (h4 j hj).below hb hn⟩⟩
theorem PsR.grown {w w' : World} {v : Value} {rs : List Rl} (h : PsR w v rs) (k : Grown w w') : PsR w' v rs := h.below k.below (Nat.le_refl _)
/-- the first rule that may not be -/
def fstR : List Rl → Nat → Int × Int
  | [], _ => (0, 0)
  | r :: l, k => if chk r = 0 then fstR l (k + 1) else ((k : Int), chk r)
def allE (rs : List Rl) : Int × Int := if 256 < rs.length then (0, 72) else fstR rs 0
theorem drop_rl {rs : List Rl} {k : Nat} (h : k < rs.length) : rs.drop k = rs[k] :: rs.drop (k + 1) := List.drop_eq_getElem_cons h
set_option maxHeartbeats 4000000 in
theorem all_any (v : Value) (rs : List Rl) (w : World) (hT : Tab w) (h : PsR w v rs) : Calls Tryd.prog 12 #[.agg #[v]] w fun e w' => e = .returned (.tuple #[.int .i64 (allE rs).1, .int .i64 (allE rs).2]) ∧ Grown w w' := by
  have HP : Hid (∀ W, Grown w W → PsR W v rs) := fun W hW => h.grown hW
  have HT : Hid (Tab w) := hT
  obtain ⟨ra, rc, rfl, _, _⟩ := h
  obtain ⟨n, hn⟩ : ∃ n, rs.length = n := ⟨_, rfl⟩
  have HN : Hid (rs.length = n) := hn
  rw [hn] at HP ⊢
  unfold allE
  rw [hn]
  clear hn hT
  by_cases h1 : 256 < n
  · rw [if_pos h1]
    have h1' : (256 : Int) < (n : Int) := by omega
    go_enter Tryd.func12, Tryd.ntmps12
    go_wp2
    go_ret2
    exact ⟨rfl, (Grown.refl _).alloc _⟩
  · rw [if_neg h1]
    have h1' : ¬ (256 : Int) < (n : Int) := by omega
    obtain ⟨E, hE⟩ : ∃ E, fstR rs 0 = E := ⟨_, rfl⟩
    have HE : Hid (fstR rs 0 = E) := hE
    rw [hE]
    clear hE
    obtain ⟨E1, E2⟩ := E
    simp only
    go_enter Tryd.func12, Tryd.ntmps12
    go_wp2
    go_loopw [14] (fun vi wr => ∃ k : Nat, vi = .int .i64 k ∧ k ≤ n ∧ Hid (fstR (rs.drop k) k = (E1, E2)) ∧ Grown (w.alloc (.cells #[.slice ra n rc] 28)) wr) (fun vi _ => n - (intOf vi).toNat)
    case atStart => exact ⟨0, rfl, by omega, HE, Grown.refl _⟩
    case round =>
      obtain ⟨k, rfl, hk, hF, hB⟩ := hrel
      have hpos : (0 : Int) ≤ (k : Int) := by omega
      have hkI : (k : Int) ≤ 256 := by omega
      have c0 := hB.cellv (a := ⟨w.heap.size, 0, none⟩) (v := .slice ra n rc) (by simp)
      have hG0 : Grown w wr := ((Grown.refl w).alloc _).trans hB
      by_cases hlt : k < n
      · have hlt' : (k : Int) < (n : Int) := by omega
        have hkl : k < rs.length := by rw [HN.out]; exact hlt
        obtain ⟨a', c', e', _, hP⟩ := HP.out wr hG0
        obtain ⟨g, o, ha', hP2⟩ := hP.resolve_left (fun e => by rw [e] at hkl; simp at hkl)
        injection e' with e1 e2 e3
        clear e2 e3
        rw [ha'] at e1
        subst e1
        obtain ⟨av, kv, pv, rv, q0, q1, q2, q3, q4, q5, q6, hR⟩ := hP2 k hkl
        have HC : Hid (∀ W, Grown wr W → Calls Tryd.prog 14 #[.agg #[.bool rs[k].bg, av, kv, pv, .bool rs[k].en, rv, .int .i64 rs[k].cu]] W fun e w' => e = .returned (.int .i64 (chk rs[k])) ∧ Grown W w') := fun W hW => by
          have hg : Grown w W := hG0.trans hW
          exact check_any rs[k] av kv pv rv W (HT.out.grown hg) (hR.grown hW)
        obtain ⟨a1, a2, a3, rfl⟩ := hR.a.sl
        obtain ⟨b1, b2, b3, rfl⟩ := hR.k.sl
        obtain ⟨p1, p2, p3, rfl⟩ := hR.p.sl
        obtain ⟨r1, r2, r3, rfl⟩ := hR.r.sl
        have hF2 := hF.out
        rw [drop_rl hkl] at hF2
        unfold fstR at hF2
        generalize hch : chk rs[k] = ch at HC hF2
        generalize rs[k].bg = xb at *
        generalize rs[k].en = xe at *
        generalize rs[k].cu = xc at *
        by_cases hq : ch = 0
        · have HF2 : Hid (fstR (rs.drop (k + 1)) (k + 1) = (E1, E2)) := by rw [if_pos hq] at hF2; exact hF2
          subst hq
          clear hF2 hF hch hR hP hP2 ha'
          go_wp2_with (go_at_call 14; refine (HC.out _ ((Grown.refl _).alloc _)).mono ?_; rintro e w' ⟨rfl, hb⟩)
          exact ⟨⟨k + 1, by go_num, by omega, HF2, (hB.alloc _).trans hb⟩, by simp [intOf]; omega⟩
        · rw [if_neg hq] at hF2
          injection hF2 with f1 f2
          subst f1 f2
          have hq' : (ch != 0) = true := by simpa using hq
          clear hF hch hR hP hP2 ha'
          go_wp2_with (go_at_call 14; refine (HC.out _ ((Grown.refl _).alloc _)).mono ?_; rintro e w' ⟨rfl, hb⟩)
          go_ret2
          exact ⟨rfl, ((Grown.refl w).alloc _).trans ((hB.alloc _).trans hb)⟩
      · have hge : ¬ (k : Int) < (n : Int) := by omega
        have hF2 := hF.out
        rw [List.drop_eq_nil_of_le (by rw [HN.out]; omega)] at hF2
        unfold fstR at hF2
        injection hF2 with f1 f2
        subst f1 f2
        clear hF
        go_wp2
        go_ret2
        exact ⟨rfl, hG0⟩
set_option maxHeartbeats 4000000 in
theorem rall_any (v : Value) (rs : List Rl) (w : World) (h : PsR w v rs) : Calls Tryd.prog 13 #[.agg #[v]] w fun e w' => e = .returned (.tuple #[.int .i64 (allE rs).1, .int .i64 (allE rs).2]) ∧ Grown w w' := by
  have HP : Hid (∀ W, Grown w W → PsR W v rs) := fun W hW => h.grown hW
  obtain ⟨ra, rc, rfl, _, _⟩ := h
  obtain ⟨n, hn⟩ : ∃ n, rs.length = n := ⟨_, rfl⟩
  have HN : Hid (rs.length = n) := hn
  rw [hn] at HP ⊢
  unfold allE
  rw [hn]
  clear hn
  by_cases h1 : 256 < n
  · rw [if_pos h1]
    have h1' : (256 : Int) < (n : Int) := by omega
    go_enter Tryd.func13, Tryd.ntmps13
    go_wp2
    go_ret2
    exact ⟨rfl, (Grown.refl _).alloc _⟩
  · rw [if_neg h1]
    have h1' : ¬ (256 : Int) < (n : Int) := by omega
    obtain ⟨E, hE⟩ : ∃ E, fstR rs 0 = E := ⟨_, rfl⟩
    have HE : Hid (fstR rs 0 = E) := hE
    rw [hE]
    clear hE
    obtain ⟨E1, E2⟩ := E
    simp only
    go_enter Tryd.func13, Tryd.ntmps13
    go_wp2
    go_loopw [4] (fun vi wr => ∃ k : Nat, vi = .int .i64 k ∧ k ≤ n ∧ Hid (fstR (rs.drop k) k = (E1, E2)) ∧ Grown (w.alloc (.cells #[.slice ra n rc] 28)) wr) (fun vi _ => n - (intOf vi).toNat)
    case atStart => exact ⟨0, rfl, by omega, HE, Grown.refl _⟩
    case round =>
      obtain ⟨k, rfl, hk, hF, hB⟩ := hrel
      have hpos : (0 : Int) ≤ (k : Int) := by omega
      have hkI : (k : Int) ≤ 256 := by omega
      have c0 := hB.cellv (a := ⟨w.heap.size, 0, none⟩) (v := .slice ra n rc) (by simp)
      have hG0 : Grown w wr := ((Grown.refl w).alloc _).trans hB
      by_cases hlt : k < n
      · have hlt' : (k : Int) < (n : Int) := by omega
        have hkl : k < rs.length := by rw [HN.out]; exact hlt
        obtain ⟨a', c', e', _, hP⟩ := HP.out wr hG0
        obtain ⟨g, o, ha', hP2⟩ := hP.resolve_left (fun e => by rw [e] at hkl; simp at hkl)
        injection e' with e1 e2 e3
        clear e2 e3
        rw [ha'] at e1
        subst e1
        obtain ⟨av, kv, pv, rv, q0, q1, q2, q3, q4, q5, q6, hR⟩ := hP2 k hkl
        have HC : Hid (∀ W, Grown wr W → Calls Tryd.prog 15 #[.agg #[.bool rs[k].bg, av, kv, pv, .bool rs[k].en, rv, .int .i64 rs[k].cu]] W fun e w' => e = .returned (.int .i64 (chk rs[k])) ∧ Grown W w') := fun W hW => by
          have hg : Grown w W := hG0.trans hW
          exact rcheck_any rs[k] av kv pv rv W (hR.grown hW)
        obtain ⟨a1, a2, a3, rfl⟩ := hR.a.sl
        obtain ⟨b1, b2, b3, rfl⟩ := hR.k.sl
        obtain ⟨p1, p2, p3, rfl⟩ := hR.p.sl
        obtain ⟨r1, r2, r3, rfl⟩ := hR.r.sl
        have hF2 := hF.out
        rw [drop_rl hkl] at hF2
        unfold fstR at hF2
        generalize hch : chk rs[k] = ch at HC hF2
        generalize rs[k].bg = xb at *
        generalize rs[k].en = xe at *
        generalize rs[k].cu = xc at *
        by_cases hq : ch = 0
        · have HF2 : Hid (fstR (rs.drop (k + 1)) (k + 1) = (E1, E2)) := by rw [if_pos hq] at hF2; exact hF2
          subst hq
          clear hF2 hF hch hR hP hP2 ha'
          go_wp2_with (go_at_call 15; refine (HC.out _ (Grown.refl _)).mono ?_; rintro e w' ⟨rfl, hb⟩)
          exact ⟨⟨k + 1, by go_num, by omega, HF2, hB.trans hb⟩, by simp [intOf]; omega⟩
        · rw [if_neg hq] at hF2
          injection hF2 with f1 f2
          subst f1 f2
          have hq' : (ch != 0) = true := by simpa using hq
          clear hF hch hR hP hP2 ha'
          go_wp2_with (go_at_call 15; refine (HC.out _ (Grown.refl _)).mono ?_; rintro e w' ⟨rfl, hb⟩)
          go_ret2
          exact ⟨rfl, ((Grown.refl w).alloc _).trans (hB.trans hb)⟩
      · have hge : ¬ (k : Int) < (n : Int) := by omega
        have hF2 := hF.out
        rw [List.drop_eq_nil_of_le (by rw [HN.out]; omega)] at hF2
        unfold fstR at hF2
        injection hF2 with f1 f2
        subst f1 f2
        clear hF
        go_wp2
        go_ret2
        exact ⟨rfl, hG0⟩
end Go.Proofs
