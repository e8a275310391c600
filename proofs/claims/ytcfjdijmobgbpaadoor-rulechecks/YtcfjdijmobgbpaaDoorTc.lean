/-
  Rows of sets that were lent are as they were.
-/
import Derived.RangeFuncNested
import Derived.RangeFuncBound
import Derived.RangeFuncCalls
import Derived.RangeFuncLeaves
import Derived.Shelf.Abstract
import Derived.Shelf.RegionOpen
import Derived.WalkKit
import Derived.WalkSpells
import Derived.WalkLawsBesides
import Derived.OwnWalkIn
import Derived.TacticsInMore
import Derived.LoopNIn
import Derived.LoopIn
import Derived.BigQuiet
import Derived.RegionIn
import Derived.Deep.QuietTactic
import Derived.Deep.RegionWith
import Derived.Lib.OthersKept
import Derived.Maps.AppendAt
import Derived.Lib.SmallJoins
import Derived.Shelf.SlSortCmp.QuietGrown
import Derived.Test.YtcfjdijmobgbpaaDoorTb
namespace Go.Proofs
open Go.RowKit Go.Shelf

set_option maxRecDepth 100000
attribute [local go_sem] Oper.semAt_some
attribute [local go_sem ↓] Go.wp_at_zero Go.wp_at_succ
set_option maxHeartbeats 2000000 in
theorem stillRow_nil (w : World) : Calls Tryd.prog 35 #[.slice none 0 0, .slice none 0 0] w fun e w' => e = .returned (.bool true) ∧ Grown w w' := by
  have he := nil22
  go_enter Tryd.func35, Tryd.ntmps35
  go_wp2
  go_loopw [14] (fun vi wr => vi = .int .i64 0 ∧ wr = w) (fun _ _ => 0)
  case atStart => exact ⟨rfl, rfl⟩
  case round =>
    obtain ⟨rfl, rfl⟩ := hrel
    go_wp2
    go_ret
    exact ⟨rfl, Grown.refl _⟩
set_option maxHeartbeats 4000000 in
theorem stillRow_some (g gm cap : Nat) (ad : Addr) (c base : Nat) (ovs svs : List Value) (ls : List (List (Int × Int))) (w : World) (hr : SRv w (.slice (some ad) ls.length c) svs ls) (hc : ls.length + 1 ≤ cap) (hol : ovs.length = ls.length)
    (ho : w.ownsRow base 51 1 (.slice (some ⟨g, 0, none⟩) (ls.length + 1) cap) (ls.length + 1) (ovs ++ [.slice (some ⟨gm, 0, none⟩) 1 1])) (hm : w.cell? ⟨gm, 0, none⟩ = some (.int .i64 (-8))) (hL : ∀ (j : Nat) (h1 : j < ovs.length) (h2 : j < svs.length) (h3 : j < ls.length), LS w base ovs[j] svs[j] ls[j]) (hn : ls.length ≤ 1048576) (hs : ∀ l ∈ ls, l.length ≤ 1048576) :
    Calls Tryd.prog 35 #[.slice (some ⟨g, 0, none⟩) ls.length cap, .slice (some ad) ls.length c] w fun e w' => e = .returned (.bool true) ∧ Grown w w' := by
  have he := some22
  obtain ⟨n, hnn⟩ : ∃ n, ls.length = n := ⟨_, rfl⟩
  have HN : Hid (ls.length = n) := hnn
  have HR : Hid (SRv w (.slice (some ad) n c) svs ls) := by rw [hnn] at hr; exact hr
  have HSm : Hid (∀ l ∈ ls, l.length ≤ 1048576) := hs
  have HL : Hid (∀ (j : Nat) (h1 : j < ovs.length) (h2 : j < svs.length) (h3 : j < ls.length), LS w base ovs[j] svs[j] ls[j]) := hL
  have HOc : Hid (∀ (j : Nat) (h1 : j < ovs.length), w.cell? ⟨g, j, none⟩ = some ovs[j]) := fun j h1 => own_cell ho (by rw [List.getElem?_append_left h1]; exact List.getElem?_eq_getElem h1)
  have HOl : Hid (ovs.length = n) := by rw [← hnn]; exact hol
  have HMk : Hid (w.cell? ⟨g, n, none⟩ = some (.slice (some ⟨gm, 0, none⟩) 1 1) ∧ w.cell? ⟨gm, 0, none⟩ = some (.int .i64 (-8))) := ⟨own_cell ho (by rw [← hnn, ← hol]; simp), hm⟩
  rw [hnn] at hn hc ⊢
  have hnI : (n : Int) ≤ 1048576 := by omega
  have hcI : (n : Int) + 1 ≤ (cap : Int) := by omega
  have hm := mixed
  clear hr hnn hs hL ho hol
  go_enter Tryd.func35, Tryd.ntmps35
  go_wp2
  go_loopw [14] (fun vi wr => ∃ k : Nat, vi = .int .i64 k ∧ k ≤ n ∧ Grown w wr) (fun vi _ => n - (intOf vi).toNat)
  case atStart => exact ⟨0, rfl, by omega, Grown.refl _⟩
  case round =>
    obtain ⟨k, rfl, hk, hG⟩ := hrel
    have hpos : (0 : Int) ≤ (k : Int) := by omega
    by_cases hlt : k < n
    · as_aux_lemma =>
        have hlt' : (k : Int) < (n : Int) := by omega
        have hkl : k < ls.length := by rw [HN.out]; exact hlt
        have hko : k < ovs.length := by rw [HOl.out]; exact hlt
        have hW := HR.out.grown hG
        have hks : k < svs.length := by rw [hW.len]; exact hkl
        obtain ⟨a', c', e', _, hcl⟩ := hW.cell
        obtain ⟨gg, oo, ha', hcl2⟩ := hcl.resolve_left (fun e => by rw [e] at hkl; simp at hkl)
        injection e' with e1 e2 e3
        clear e2 e3
        rw [ha'] at e1
        injection e1 with e1
        subst e1
        have d2 := hcl2 k hks
        have d1 := hG.cellv (HOc.out k hko)
        have hLk := (HL.out k hko hks hkl).below hG.below (Nat.le_refl _)
        have hel := hW.el k hks hkl
        have HC : Hid (∀ W, Grown wr W → Calls Tryd.prog 61 #[ovs[k], svs[k]] W fun e w' => e = .returned (.bool true) ∧ Grown W w') := fun W hW2 => stillSet_any _ _ base ls[k] W (hLk.below hW2.below (Nat.le_refl _)) (hel.1.grown hW2) (HSm.out _ (List.getElem_mem hkl))
        obtain ⟨sa, sn, sc, hsv⟩ : IsSl svs[k] := hel.1.sl
        obtain ⟨ta, tn, tc, hov⟩ : IsSl ovs[k] := hLk.sl
        rw [hsv] at d2 HC
        rw [hov] at d1 HC
        have f1 : ∀ m os, (Go.Sort.grow (wr.drewN m) os).cell? ⟨g, k, none⟩ = some (.slice ta tn tc) := fun m os => ((Grown.refl _).quiet m os).cellv d1
        have f2 : ∀ m os, (Go.Sort.grow (wr.drewN m) os).cell? ⟨gg, oo + k, none⟩ = some (.slice sa sn sc) := fun m os => ((Grown.refl _).quiet m os).cellv d2
        clear d1 d2 hcl hcl2 hel hsv hov hW hLk ha'
        go_wp2
        refine wp_region_quiet_grown hm (by kernel_rfl) ?_
        repeat (go_big_quiet_step ((go_at_call 61; exact grown_of (HC.out _ ((Grown.refl _).quiet _ _)))))
        refine wpQuiet_nil ?_
        intro _ hw'
        obtain ⟨⟨nq, osq⟩, hw''⟩ := hw'
        subst hw''
        go_wp2
        exact ⟨⟨k + 1, by go_num, by omega, hG.quiet _ _⟩, by simp [intOf]; omega⟩
    · as_aux_lemma =>
        have hge : ¬ (k : Int) < (n : Int) := by omega
        have m0 := hG.cellv HMk.out.1
        have m1 := hG.cellv HMk.out.2
        go_wp2
        go_ret
        exact ⟨rfl, hG⟩
theorem stillRow_any (ov v : Value) (base : Nat) (svs : List Value) (ls : List (List (Int × Int))) (w : World) (h : LR w base ov v svs ls) (hr : SRv w v svs ls) (hn : ls.length ≤ 1048576) (hs : ∀ l ∈ ls, l.length ≤ 1048576) : Calls Tryd.prog 35 #[ov, v] w fun e w' => e = .returned (.bool true) ∧ Grown w w' := by
  rcases h with ⟨rfl, rfl, _⟩ | ⟨⟨ad, c, rfl⟩, g, cap, ovs, gm, rfl, h3, h4, h5, h6, _, h7⟩
  · exact stillRow_nil w
  · exact stillRow_some g gm cap ad c base ovs svs ls w hr h3 h4 h5 h6 h7 hn hs
end Go.Proofs
