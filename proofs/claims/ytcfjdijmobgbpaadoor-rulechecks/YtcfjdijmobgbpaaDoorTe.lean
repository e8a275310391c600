/-
  Rows of pieces that were lent are as they were.
-/
import Derived.RangeFuncNested
import Derived.RangeFuncBound
import Derived.RangeFuncCalls
import Derived.RangeFuncLeaves
import Derived.Shelf.Abstract
import Derived.Shelf.RegionOpen
import Derived.WalkKit
import Derived.WalkSpells
import Derived.WalkLawsBesides
import Derived.OwnWalkIn
import Derived.TacticsInMore
import Derived.LoopNIn
import Derived.LoopIn
import Derived.BigQuiet
import Derived.RegionIn
import Derived.Deep.QuietTactic
import Derived.Deep.RegionWith
import Derived.Lib.OthersKept
import Derived.Maps.AppendAt
import Derived.Lib.SmallJoins
import Derived.Shelf.SlSortCmp.QuietGrown
import Derived.Test.YtcfjdijmobgbpaaDoorTd
namespace Go.Proofs
open Go.RowKit Go.Shelf

set_option maxRecDepth 100000
attribute [local go_sem] Oper.semAt_some
attribute [local go_sem ↓] Go.wp_at_zero Go.wp_at_succ
set_option maxHeartbeats 2000000 in
theorem stillPieces_nil (w : World) : Calls Tryd.prog 36 #[.slice none 0 0, .slice none 0 0] w fun e w' => e = .returned (.bool true) ∧ Grown w w' := by
  have he := nil23
  go_enter Tryd.func36, Tryd.ntmps36
  go_wp2
  go_loopw [13] (fun vi wr => vi = .int .i64 0 ∧ wr = w) (fun _ _ => 0)
  case atStart => exact ⟨rfl, rfl⟩
  case round =>
    obtain ⟨rfl, rfl⟩ := hrel
    go_wp2
    go_ret
    exact ⟨rfl, Grown.refl _⟩
set_option maxHeartbeats 8000000 in
theorem stillPieces_some (g cap : Nat) (ad : Addr) (c base : Nat) (es : List (Pc × Value)) (tvs : List Value) (ps : List Pc) (w : World) (hr : PRv w (.slice (some ad) ps.length c) tvs ps) (hc : ps.length + 1 ≤ cap) (hes : es.map Prod.fst = ps)
    (ho : w.ownsRow base 53 4 (.slice (some ⟨g, 0, none⟩) (ps.length + 1) cap) (ps.length + 1) (fp (es ++ [markP]))) (hL : ∀ (j : Nat) (h1 : j < es.length) (h2 : j < tvs.length), LS w base es[j].2 tvs[j] es[j].1.tl) (hn : ps.length ≤ 1048576) (hs : ∀ p ∈ ps, p.tl.length ≤ 1048576) :
    Calls Tryd.prog 36 #[.slice (some ⟨g, 0, none⟩) ps.length cap, .slice (some ad) ps.length c] w fun e w' => e = .returned (.bool true) ∧ Grown w w' := by
  have he := some23
  obtain ⟨n, hnn⟩ : ∃ n, ps.length = n := ⟨_, rfl⟩
  have hel0 : es.length = n := by rw [← hnn, ← hes]; simp
  have HN : Hid (ps.length = n) := hnn
  have HR : Hid (PRv w (.slice (some ad) n c) tvs ps) := by rw [hnn] at hr; exact hr
  have HSm : Hid (∀ p ∈ ps, p.tl.length ≤ 1048576) := hs
  have HL : Hid (∀ (j : Nat) (h1 : j < es.length) (h2 : j < tvs.length), LS w base es[j].2 tvs[j] es[j].1.tl) := hL
  have HOc : Hid (∀ (j : Nat) (h1 : j < es.length), w.cell? ⟨g, j * 4, none⟩ = some (.int .i64 es[j].1.k) ∧ w.cell? ⟨g, j * 4 + 1, none⟩ = some (.int .i64 es[j].1.u) ∧ w.cell? ⟨g, j * 4 + 2, none⟩ = some (.int .i64 es[j].1.y) ∧ w.cell? ⟨g, j * 4 + 3, none⟩ = some es[j].2) := fun j h1 => lp_cells ho h1
  have HOl : Hid (es.length = n) := hel0
  have HEs : Hid (es.map Prod.fst = ps) := hes
  have HMk : Hid (w.cell? ⟨g, n * 4, none⟩ = some (.int .i64 (-9))) := by
    have := fp_at (es ++ [markP]) (j := n) (by simp; omega)
    have h9 : (es ++ [markP])[n]'(by simp; omega) = markP := by simp [← hel0]
    rw [h9] at this
    exact own_cell4 ho this.1
  rw [hnn] at hn hc ⊢
  have hnI : (n : Int) ≤ 1048576 := by omega
  have hcI : (n : Int) + 1 ≤ (cap : Int) := by omega
  have hm := mixed
  clear hr hnn hs hL ho hes hel0
  go_enter Tryd.func36, Tryd.ntmps36
  go_wp2
  go_loopw [13] (fun vi wr => ∃ k : Nat, vi = .int .i64 k ∧ k ≤ n ∧ Grown w wr) (fun vi _ => n - (intOf vi).toNat)
  case atStart => exact ⟨0, rfl, by omega, Grown.refl _⟩
  case round =>
    obtain ⟨k, rfl, hk, hG⟩ := hrel
    have hpos : (0 : Int) ≤ (k : Int) := by omega
    by_cases hlt : k < n
    · as_aux_lemma =>
        have hlt' : (k : Int) < (n : Int) := by omega
        have hkl : k < ps.length := by rw [HN.out]; exact hlt
        have hko : k < es.length := by rw [HOl.out]; exact hlt
        have hW := HR.out.grown hG
        have hks : k < tvs.length := by rw [hW.len]; exact hkl
        obtain ⟨a', c', e', _, hcl⟩ := hW.cell
        obtain ⟨gg, oo, ha', hcl2⟩ := hcl.resolve_left (fun e => by rw [e] at hkl; simp at hkl)
        injection e' with e1 e2 e3
        clear e2 e3
        rw [ha'] at e1
        injection e1 with e1
        subst e1
        obtain ⟨q0, q1, q2, q3⟩ := hcl2 k hks hkl
        obtain ⟨p0, p1, p2, p3⟩ := HOc.out k hko
        have hep : es[k].1 = ps[k] := by have := HEs.out; subst this; simp
        have hLk := (HL.out k hko hks).below hG.below (Nat.le_refl _)
        have hel := hW.el k hks hkl
        rw [hep] at p0 p1 p2 hLk
        have HC : Hid (∀ W, Grown wr W → Calls Tryd.prog 61 #[es[k].2, tvs[k]] W fun e w' => e = .returned (.bool true) ∧ Grown W w') := fun W hW2 => stillSet_any _ _ base ps[k].tl W (hLk.below hW2.below (Nat.le_refl _)) (hel.1.grown hW2) (HSm.out _ (List.getElem_mem hkl))
        obtain ⟨sa, sn, sc, hsv⟩ : IsSl tvs[k] := hel.1.sl
        obtain ⟨ta, tn, tc, hov⟩ : IsSl es[k].2 := hLk.sl
        rw [hsv] at q3 HC
        rw [hov] at p3 HC
        generalize ps[k].k = xk at *
        generalize ps[k].u = xu at *
        generalize ps[k].y = xy at *
        have f0 : ∀ m os, (Go.Sort.grow (wr.drewN m) os).cell? ⟨g, k * 4, none⟩ = some (.int .i64 xk) := fun m os => (hG.quiet m os).cellv p0
        have f1 : ∀ m os, (Go.Sort.grow (wr.drewN m) os).cell? ⟨g, k * 4 + 1, none⟩ = some (.int .i64 xu) := fun m os => (hG.quiet m os).cellv p1
        have f2 : ∀ m os, (Go.Sort.grow (wr.drewN m) os).cell? ⟨g, k * 4 + 2, none⟩ = some (.int .i64 xy) := fun m os => (hG.quiet m os).cellv p2
        have f3 : ∀ m os, (Go.Sort.grow (wr.drewN m) os).cell? ⟨g, k * 4 + 3, none⟩ = some (.slice ta tn tc) := fun m os => (hG.quiet m os).cellv p3
        have h0 : ∀ m os, (Go.Sort.grow (wr.drewN m) os).cell? ⟨gg, oo + k * 4, none⟩ = some (.int .i64 xk) := fun m os => ((Grown.refl _).quiet m os).cellv q0
        have h1 : ∀ m os, (Go.Sort.grow (wr.drewN m) os).cell? ⟨gg, oo + k * 4 + 1, none⟩ = some (.int .i64 xu) := fun m os => ((Grown.refl _).quiet m os).cellv q1
        have h2 : ∀ m os, (Go.Sort.grow (wr.drewN m) os).cell? ⟨gg, oo + k * 4 + 2, none⟩ = some (.int .i64 xy) := fun m os => ((Grown.refl _).quiet m os).cellv q2
        have h3 : ∀ m os, (Go.Sort.grow (wr.drewN m) os).cell? ⟨gg, oo + k * 4 + 3, none⟩ = some (.slice sa sn sc) := fun m os => ((Grown.refl _).quiet m os).cellv q3
        clear p0 p1 p2 p3 q0 q1 q2 q3 hcl hcl2 hel hsv hov hW hLk ha' hep
        go_wp2
        refine wp_region_quiet_grown hm (by kernel_rfl) ?_
        repeat (go_big_quiet_step ((go_at_call 61; exact grown_of (HC.out _ ((Grown.refl _).quiet _ _)))))
        refine wpQuiet_nil ?_
        intro _ hw'
        obtain ⟨⟨nq, osq⟩, hw''⟩ := hw'
        subst hw''
        go_wp2
        exact ⟨⟨k + 1, by go_num, by omega, hG.quiet _ _⟩, by simp [intOf]; omega⟩
    · as_aux_lemma =>
        have hge : ¬ (k : Int) < (n : Int) := by omega
        have m0 := hG.cellv HMk.out
        go_wp2
        go_ret
        exact ⟨rfl, hG⟩
theorem stillPieces_any (ov v : Value) (base : Nat) (tvs : List Value) (ps : List Pc) (w : World) (h : LP w base ov v tvs ps) (hr : PRv w v tvs ps) (hn : ps.length ≤ 1048576) (hs : ∀ p ∈ ps, p.tl.length ≤ 1048576) : Calls Tryd.prog 36 #[ov, v] w fun e w' => e = .returned (.bool true) ∧ Grown w w' := by
  rcases h with ⟨rfl, rfl, _⟩ | ⟨⟨ad, c, rfl⟩, g, cap, es, rfl, h3, h4, h5, h6⟩
  · exact stillPieces_nil w
  · exact stillPieces_some g cap ad c base es tvs ps w hr h3 h4 h5 h6 hn hs
end Go.Proofs
