/-
  The document's least weights.
-/
import Derived.RangeFuncNested
import Derived.RangeFuncBound
import Derived.RangeFuncCalls
import Derived.RangeFuncLeaves
import Derived.Shelf.Abstract
import Derived.Shelf.RegionOpen
import Derived.WalkKit
import Derived.WalkSpells
import Derived.WalkLawsBesides
import Derived.OwnWalkIn
import Derived.TacticsInMore
import Derived.LoopNIn
import Derived.LoopIn
import Derived.BigQuiet
import Derived.RegionIn
import Derived.Deep.QuietTactic
import Derived.Deep.RegionWith
import Derived.Lib.OthersKept
import Derived.Maps.AppendAt
import Derived.Lib.SmallJoins
import Derived.Shelf.SlSortCmp.QuietGrown
import Derived.Deep.AppendLies
import Derived.Deep.RegionLaw
import Derived.Deep.DeepCutAuto
import Derived.Deep.CutBlock
import Derived.Laws.OwnMore
import Derived.Laws.ResultCell
import Derived.Test.YtkijbaofhodplaaDoorMgj
import Derived.Test.YtkijbaofhodplaaDoorMgd
namespace Go.Proofs
open Go.RowKit Go.Shelf

set_option maxRecDepth 100000
attribute [local go_sem] Oper.semAt_some
attribute [local go_sem ↓] Go.wp_at_zero Go.wp_at_succ

/-- the document's scale in memory while weights are raised -/
structure LS (w1 : World) (rs : List Rl) (st : St) (lv : Value) (L : List Int) (wr : World) (wv : Value) (W : List Int) : Prop where
  blk : wr.heap[w1.heap.size]? = some (.cells #[lv, wv] 70 (0, 0))
  own : OwnI wr (w1.heap.size + 1) wv W
  bel : Below w1.heap.size w1 wr
  wb : WB rs st L W
theorem blk_lt {w : World} {g : Nat} {o : Obj} (h : w.heap[g]? = some o) : g < w.heap.size := (Array.getElem?_eq_some_iff.1 h).1
theorem blk_below {w w' : World} {g n : Nat} {o : Obj} (h : w.heap[g]? = some o) (hb : Below n w w') (hg : g < n) : w'.heap[g]? = some o := by rw [hb.block g hg]; exact h
theorem LS.grown {w1 : World} {rs : List Rl} {st : St} {lv : Value} {L : List Int} {wr wr' : World} {wv : Value} {W : List Int} (h : LS w1 rs st lv L wr wv W) (k : Grown wr wr') : LS w1 rs st lv L wr' wv W :=
  ⟨blk_below h.blk k.below (blk_lt h.blk), h.own.below k.below (Nat.le_refl _), h.bel.trans (k.below.mono h.bel.size), h.wb⟩
theorem OwnI.turn {w w' : World} {base : Nat} {v : Value} {l : List Int} (h : OwnI w base v l) (hk : ∀ b, base ≤ b → w'.heap[b]? = w.heap[b]?) : OwnI w' base v l := by
  refine ⟨h.1, ?_⟩
  rcases h.2 with h1 | ⟨g, cap, cur, h1, h2, h3, h4⟩
  · exact .inl h1
  · exact .inr ⟨g, cap, cur, h1, h2, (hk g h2).trans h3, h4⟩
theorem ints_set (l : List Int) (k : Nat) (x : Int) : ints (l.set k x) = (ints l).set k (.int .i64 x) := by simp [ints, List.map_set]
theorem LS.form {w1 : World} {rs : List Rl} {st : St} {lv : Value} {L : List Int} {wr : World} {wv : Value} {W : List Int} (h : LS w1 rs st lv L wr wv W) (hn : 0 < L.length) :
    ∃ g c : Nat, wv = .slice (some ⟨g, 0, none⟩) L.length c ∧ L.length ≤ c ∧ (∀ j, j < L.length → wr.cell? ⟨g, j, none⟩ = some (.int .i64 (bAt W j))) ∧ (∀ j, wr.frozen? ⟨g, j, none⟩ = false) ∧
      ∀ (k : Nat) (n : Int), WB rs st L (W.set k n) → LS w1 rs st lv L (wr.setCell ⟨g, k, none⟩ (.int .i64 n)) wv (W.set k n) := by
  have ho := h.own
  unfold OwnI at ho
  obtain ⟨g, c, hv, hb, hg⟩ := World.ownsRow.form ho (by rw [h.wb.e]; exact hn)
  subst hv
  have hs := fun k n => (World.ownsRow.stored ho k (.int .i64 n)).1
  have hc : W.length ≤ c := by obtain ⟨_, c', e, hcc, _⟩ := h.own.ir; injection e with _ _ e3; omega
  have hl : W.length = L.length := h.wb.e
  refine ⟨g, c, by rw [hl], by omega, fun j hj => ?_, fun j => World.ownsRow.frozenAt ho j, fun k n hw => ⟨?_, ?_, h.bel.setCell (by show _ ≤ g; omega) _, hw⟩⟩
  · rw [World.ownsRow.cellAt ho j (by omega)]
    simp [ints, bAt, hl, hj]
  · rw [turns_set wr g k _ _ (by omega)]; exact h.blk
  · unfold OwnI
    rw [ints_set, List.length_set]
    exact hs k n
theorem LS.sc {w1 : World} {rs : List Rl} {st : St} {lv : Value} {L : List Int} {wr : World} {wv : Value} {W : List Int} (h : LS w1 rs st lv L wr wv W) (hF : Fin rs st) (hL : IR w1 lv L) (hn : 0 < L.length) (hN : L.length ≤ 4611686018427387903) : SC wr lv wv L W :=
  ⟨hL.below h.bel (Nat.le_refl _), h.own.ir, h.wb.e, hN, hn, h.wb.in64 hF⟩
/-- one round over the rules: what has been raised -/
def LQ (w1 : World) (rs : List Rl) (st : St) (lv : Value) (L W0 : List Int) (wr : World) (m : Bool) : Prop := ∃ wv W, LS w1 rs st lv L wr wv W ∧ tws W0 ≤ tws W ∧ (m = true → tws W0 < tws W)
theorem LQ.grown {w1 : World} {rs : List Rl} {st : St} {lv : Value} {L W0 : List Int} {wr wr' : World} {m : Bool} (h : LQ w1 rs st lv L W0 wr m) (k : Grown wr wr') : LQ w1 rs st lv L W0 wr' m := by
  obtain ⟨wv, W, h1, h2⟩ := h
  exact ⟨wv, W, h1.grown k, h2⟩
theorem ret_sc {fn : Func} {p q : Tmp} {W : World} {B : Nat} {tmps : Array Value} {a b : Value} {t : Bool} {R : Ending → World → Prop} (hr : fn.results = #[.cell p 70, .tmp q]) (hp : tmps.getD p undef = .pointer (some ⟨B, 0, none⟩)) (hq : tmps.getD q undef = .bool t) (h : W.heap[B]? = some (.cells #[a, b] 70 (0, 0)))
    (K : R (.returned (.tuple #[.agg #[a, b], .bool t])) W) : bodyPost Tryd.prog fn R Exit.ret { tmps := tmps, defers := [] } W := by
  have c0 : W.cell? ⟨B, 0, none⟩ = some a := by rw [cell_of h]; simp
  have c1 : W.cell? ⟨B, 1, none⟩ = some b := by rw [cell_of h]; simp
  refine bodyPost_ret (v := .tuple #[.agg #[a, b], .bool t]) ?_ rfl K
  rw [results_cell_tmp hr]
  simp only [hp, hq]
  simp [go_sem, Result.andThen, c0, c1]
def LeQ (w : World) (e : Ending) (w' : World) : Prop := ∃ lv wv, IsSl lv ∧ IsSl wv ∧ e = .returned (.tuple #[.agg #[lv, wv], .bool true]) ∧ Below w.heap.size w w'

set_option maxHeartbeats 32000000 in
theorem least_any (v : Value) (rs : List Rl) (st : St) (w : World) (h : PsR w v rs) (hF : Fin rs st) : Calls Tryd.prog 30 #[v] w (LeQ w) := by
  have HP0 : Hid (PsR w v rs) := h
  have HF : Hid (Fin rs st) := hF
  have HBo : Hid (∀ V, Grown w V → Calls Tryd.prog 49 #[v] V (BoQ V rs)) := fun V hg => borders_any v rs V (h.grown hg) hF.ok (by have := hF.n; omega)
  obtain ⟨ra, rc, hv, hx1, hx2⟩ := h
  subst hv
  clear hx1 hx2
  obtain ⟨n, hN⟩ : ∃ n, rs.length = n := ⟨_, rfl⟩
  have HN : Hid (rs.length = n) := hN
  have hnI : (n : Int) ≤ 256 := by have := hF.n; omega
  rw [hN] at HP0 HBo ⊢
  clear hN hF
  go_enter Tryd.func30, Tryd.ntmps30
  go_wp2_with fail
  obtain ⟨wA, hwA⟩ : ∃ wA, wA = w.alloc (.cells #[.slice none 0 0, .slice none 0 0] 70) := ⟨_, rfl⟩
  have HGA : Hid (Grown w wA) := by show Grown _ _; rw [hwA]; exact (Grown.refl _).alloc _
  have HBA : Hid (wA.heap[w.heap.size]? = some (.cells #[.slice none 0 0, .slice none 0 0] 70 (0, 0))) := by show _ = _; rw [hwA]; exact heap_alloc_new _ _
  try rw [← hwA]
  refine (HBo.out _ HGA.out).mono ?_
  rintro e w1 ⟨lv, L, rfl, hIL, hSL, hB1⟩
  have HIL : Hid (IR w1 lv L) := hIL
  have HSL : Hid (Srt (0 :: bords rs) L) := hSL
  have HP : Hid (PsR w1 (.slice ra n rc) rs) := HP0.out.below (HGA.out.below.trans (hB1.mono HGA.out.size)) (Nat.le_refl _)
  have HB1 : Hid (Below w.heap.size w w1 ∧ w1.heap[w.heap.size]? = some (.cells #[.slice none 0 0, .slice none 0 0] 70 (0, 0))) := ⟨HGA.out.below.trans (hB1.mono HGA.out.size), blk_below HBA.out hB1 (blk_lt HBA.out)⟩
  have HLl : Hid (0 < L.length ∧ L.length ≤ 4500000) := by
    refine ⟨List.length_pos_of_mem ((hSL.m 0).2 (by simp)), ?_⟩
    have h1 := hSL.n
    have h2 := bords_len HF.out.ok
    have h3 := HF.out.n
    rw [List.length_cons] at h1
    omega
  obtain ⟨la, lc, hlv, hx1, hx2⟩ := hIL
  subst hlv
  clear hx1 hx2
  obtain ⟨N, hNL⟩ : ∃ N, L.length = N := ⟨_, rfl⟩
  have HNL : Hid (L.length = N) := hNL
  rw [hNL] at HIL HLl ⊢
  have hNI : (N : Int) ≤ 4500000 := by have := HLl.out; omega
  have hN0 : (0 : Int) < (N : Int) := by have := HLl.out; omega
  clear hSL hB1 hNL HBo HP0 HBA HGA hwA
  go_wp2
  obtain ⟨w2, hw2⟩ : ∃ w2, w2 = w1.alloc (.cells #[.slice la N lc, .slice none 0 0] 70) := ⟨_, rfl⟩
  obtain ⟨sp, hsp⟩ : ∃ sp, w1.heap.size = sp := ⟨_, rfl⟩
  have HSP : Hid (w1.heap.size = sp) := hsp
  have H2 : Hid (w2.heap[sp]? = some (.cells #[.slice la N lc, .slice none 0 0] 70 (0, 0)) ∧ Below sp w1 w2) := by
    rw [hw2, ← hsp]
    exact ⟨heap_alloc_new _ _, ((Grown.refl w1).alloc _).below⟩
  rw [← hw2, hsp]
  clear hw2 hsp
  go_loopw [5] (fun vi wr => ∃ k : Nat, vi = .int .i64 k ∧ k ≤ N ∧ Hid (∃ wv, wr.heap[sp]? = some (.cells #[.slice la N lc, wv] 70 (0, 0)) ∧ OwnI wr (sp + 1) wv (List.replicate k 1) ∧ Below sp w1 wr)) (fun vi _ => N - (intOf vi).toNat)
  case atStart => exact ⟨0, rfl, by omega, _, H2.out.1, OwnI.nil _ _, H2.out.2⟩
  case round =>
    clear H2
    obtain ⟨k, rfl, hk, HX⟩ := hrel
    have hk0 : (0 : Int) ≤ (k : Int) := by omega
    obtain ⟨wv, hb, ho, hB⟩ := HX.out
    have d0 : wr.cell? ⟨sp, 0, none⟩ = some (.slice la N lc) := by rw [cell_of hb]; simp
    have d1 : wr.cell? ⟨sp, 1, none⟩ = some wv := by rw [cell_of hb]; simp
    by_cases hlt : k < N
    · have hlt' : (k : Int) < (N : Int) := by omega
      obtain ⟨x1, x2, x3, hwv⟩ := ho.ir.sl
      subst hwv
      have HY : Hid (∀ ob, OwnI (wr.alloc ob) (sp + 1) (.slice x1 x2 x3) (List.replicate k 1) ∧ sp + 1 ≤ (wr.alloc ob).heap.size ∧ (wr.alloc ob).heap[sp]? = some (.cells #[.slice la N lc, .slice x1 x2 x3] 70 (0, 0)) ∧ Below sp w1 (wr.alloc ob)) := fun ob => by
        have g := (Grown.refl wr).alloc ob
        exact ⟨ho.below g.below (Nat.le_refl _), by have := blk_lt hb; have := g.size; omega, blk_below hb g.below (blk_lt hb), hB.trans (g.below.mono (by have := hB.size; have := HSP.out; omega))⟩
      have hkN : (List.replicate k (1 : Int)).length + 1 ≤ 8796093022208 := by simp; omega
      clear hb ho hB HX
      go_wp2_with (at_builtin; go_must (refine push_I rfl _ _ 40 rfl Tryd.underlying40 (sp + 1) _ (List.replicate k 1) rfl (HY.out _).1 _ _ 1 rfl (by (first | (simp; done) | exact new_cell _ _ _ _ rfl)) hkN (HY.out _).2.1 ?_; intro v3 w3 hO3 hB3; obtain ⟨y1, y2, y3, hv3⟩ := hO3.ir.sl; subst hv3; have HZ3 : Hid (OwnI w3 (sp + 1) (.slice y1 y2 y3) (List.replicate (k + 1) 1) ∧ w3.heap[sp]? = some (.cells #[.slice la N lc, .slice x1 x2 x3] 70 (0, 0)) ∧ Below sp w1 w3) := ⟨by rw [List.replicate_succ']; exact hO3, blk_below (HY.out _).2.2.1 hB3 (Nat.lt_succ_self _), (HY.out _).2.2.2.trans (hB3.mono (Nat.le_succ _))⟩; have f1 : w3.cell? ⟨sp, 1, none⟩ = some (.slice x1 x2 x3) := (by rw [cell_of HZ3.out.2.1]; simp); have f2 : w3.frozen? ⟨sp, 1, none⟩ = false := free_of HZ3.out.2.1; clear hO3 hB3))
      try go_wp2
      refine ⟨⟨k + 1, by go_num, by omega, .slice y1 y2 y3, ?_, ?_, ?_⟩, by simp [intOf]; omega⟩
      · rw [set_heap HZ3.out.2.1]; rfl
      · exact HZ3.out.1.turn fun b hb => turns_set _ _ _ _ b (by omega)
      · exact HZ3.out.2.2.setCell (Nat.le_refl _) _
    · have hge : ¬ (k : Int) < (N : Int) := by omega
      have HLS : Hid (∃ wv W, LS w1 rs st (.slice la N lc) L wr wv W) := by
        have hkN : k = N := by omega
        subst hkN
        refine ⟨wv, List.replicate k 1, by rw [HSP.out]; exact hb, by rw [HSP.out]; exact ho, by rw [HSP.out]; exact hB, by simp [HNL.out], fun j hj => ?_⟩
        have hj2 : j < k := by rw [HNL.out] at hj; exact hj
        have e : bAt (List.replicate k 1) j = 1 := by simp [bAt, hj2]
        rw [e]
        exact ⟨Int.le_refl _, (HF.out.wK_in _).1⟩
      clear HX hb ho hB d1
      go_wp2
      go_loopg [6] (64 * N + 1) (fun f v6 wr => ∃ m, v6 = .bool m ∧ Hid (∃ wv W, LS w1 rs st (.slice la N lc) L wr wv W ∧ (m = true → 64 * N < f + tws W)))
      case atStart =>
        obtain ⟨wv, W, h1⟩ := HLS.out
        exact ⟨true, rfl, wv, W, h1, fun _ => by omega⟩
      case round =>
        clear HLS d0
        obtain ⟨m, rfl, HX⟩ := hrel
        cases m with
        | false =>
          obtain ⟨wv, W, h1, _⟩ := HX.out
          have hb := h1.blk
          rw [HSP.out] at hb
          obtain ⟨gw, cw, hwv, _⟩ := h1.form (by rw [HNL.out]; exact HLl.out.1)
          rw [HNL.out] at hwv
          subst hwv
          have hb0 := blk_below HB1.out.2 h1.bel (by have := blk_lt HB1.out.2; omega)
          have d0 : wr.cell? ⟨sp, 0, none⟩ = some (.slice la N lc) := by rw [cell_of hb]; simp
          have d1 : wr.cell? ⟨sp, 1, none⟩ = some (.slice (some ⟨gw, 0, none⟩) N cw) := by rw [cell_of hb]; simp
          have e0 : wr.cell? ⟨w.heap.size, 0, none⟩ = some (.slice none 0 0) := by rw [cell_of hb0]; simp
          have e1 : wr.cell? ⟨w.heap.size, 1, none⟩ = some (.slice none 0 0) := by rw [cell_of hb0]; simp
          have fz : ∀ j, wr.frozen? ⟨w.heap.size, j, none⟩ = false := fun j => free_of hb0
          have HBw : Hid (Below w.heap.size w wr) := HB1.out.1.trans (h1.bel.mono HB1.out.1.size)
          have HB0 : Hid (wr.heap[w.heap.size]? = some (.cells #[.slice none 0 0, .slice none 0 0] 70 (0, 0))) := hb0
          clear HX h1 hb hb0
          go_wp2
          refine ret_sc rfl rfl rfl (set_heap (set_heap HB0.out)) ?_
          exact ⟨_, _, ⟨_, _, _, rfl⟩, ⟨_, _, _, rfl⟩, rfl, (HBw.out.setCell (Nat.le_refl _) _).setCell (Nat.le_refl _) _⟩
        | true =>
          obtain ⟨wv0, W0, h1, h2⟩ := HX.out
          have HM : Hid (64 * N < gk + tws W0) := h2 rfl
          have HQ0 : Hid (LQ w1 rs st (.slice la N lc) L W0 wr false) := ⟨wv0, W0, h1, Nat.le_refl _, by simp⟩
          clear HX h1 h2
          go_wp2
          go_loopw [6, 7] (fun v6 v7 wr => ∃ (m : Bool) (k : Nat), v6 = .bool m ∧ v7 = .int .i64 k ∧ k ≤ n ∧ Hid (LQ w1 rs st (.slice la N lc) L W0 wr m)) (fun _ v7 _ => n - (intOf v7).toNat)
          case atStart => exact ⟨false, 0, rfl, rfl, by omega, HQ0⟩
          case round =>
            clear HQ0
            obtain ⟨m, i, rfl, rfl, hi, HQ⟩ := hrel
            have hi0 : (0 : Int) ≤ (i : Int) := by omega
            by_cases hlti : i < n
            · have hlti' : (i : Int) < (n : Int) := by omega
              go_upto_block 5 with fail
              go_cut [6] (fun s wx => ∃ m, s = .bool m ∧ Hid (LQ w1 rs st (.slice la N lc) L W0 wx m))
              case rest =>
                obtain ⟨m', rfl, HQ'⟩ := hcut
                go_wp2
                exact ⟨⟨m', i + 1, rfl, by go_num, by omega, HQ'⟩, by simp [intOf]; omega⟩
              case first =>
                have hil : i < rs.length := by rw [HN.out]; exact hlti
                obtain ⟨wv, W, hLS, ht1, ht2⟩ := HQ.out
                obtain ⟨gw, cw, hwv, hcw, hcel, hfz, hset⟩ := hLS.form (by rw [HNL.out]; exact HLl.out.1)
                rw [HNL.out] at hwv
                subst hwv
                have hblk := hLS.blk
                rw [HSP.out] at hblk
                obtain ⟨a', c', e', _, hPr⟩ := HP.out
                obtain ⟨g, o, ha', hPd⟩ := hPr.resolve_left (fun e => by rw [e] at hil; simp at hil)
                injection e' with e1 e2 e3
                clear e2 e3
                rw [ha'] at e1
                subst e1
                obtain ⟨av, kv, pv, rv, q0, q1, q2, q3, q4, q5, q6, hR⟩ := hPd i hil
                have q0 := cell_below q0 hLS.bel (Nat.le_refl _)
                have q1 := cell_below q1 hLS.bel (Nat.le_refl _)
                have q2 := cell_below q2 hLS.bel (Nat.le_refl _)
                have q3 := cell_below q3 hLS.bel (Nat.le_refl _)
                have q4 := cell_below q4 hLS.bel (Nat.le_refl _)
                have q5 := cell_below q5 hLS.bel (Nat.le_refl _)
                have q6 := cell_below q6 hLS.bel (Nat.le_refl _)
                have hOk := HF.out.ok _ (List.getElem_mem hil)
                have hWn := wnt_le HF.out HSL.out hLS.wb hil
                have HC0 := fun (V : World) (hg : Grown wr V) => wants_any (.slice la N lc) (.slice (some ⟨gw, 0, none⟩) N cw) L W rs[i] av kv pv rv V ((hLS.grown hg).sc HF.out HIL.out (by rw [HNL.out]; exact HLl.out.1) (by rw [HNL.out]; have := HLl.out.2; omega)) ((hR.below hLS.bel (Nat.le_refl _)).grown hg) hOk
                obtain ⟨x, hx⟩ : ∃ x, wnt L W rs[i] = x := ⟨_, rfl⟩
                rw [hx] at hWn
                have HXW : Hid (x ≤ at0 st.ws i) := hWn
                have hx64 : x ≤ 64 := by have := (HF.out.ws_in hil).2; omega
                have HC : Hid (∀ m os, Calls Tryd.prog 50 #[.agg #[.slice la N lc, .slice (some ⟨gw, 0, none⟩) N cw], .agg #[.bool rs[i].bg, av, kv, pv, .bool rs[i].en, rv, .int .i64 rs[i].cu]] (Go.Sort.grow (wr.drewN m) os) fun e w' => e = .returned (.int .i64 x) ∧ Grown (Go.Sort.grow (wr.drewN m) os) w') := fun m os => by
                  have := HC0 _ ((Grown.refl wr).quiet m os)
                  rw [hx] at this; exact this
                have HFS := first_valid HF.out.ok hil
                obtain ⟨ka, kc, hkv, hkc, hks⟩ := hR.k
                obtain ⟨kg, ko, hka, hkd⟩ := hks.resolve_left (fun e => by have := hOk.k0; rw [e] at this; simp at this)
                subst hka
                obtain ⟨sv, qs, hs⟩ := hkd 0 hOk.k0
                rw [Nat.add_zero] at qs
                have qs := cell_below qs hLS.bel (Nat.le_refl _)
                obtain ⟨F, hFF⟩ : ∃ F, fstS rs i = F := ⟨_, rfl⟩
                have HFE : Hid (fstS rs i = F) := hFF
                have hs2 : Rs w1 sv F := by
                  have hk := hOk.k0
                  have e : keyAt rs[i].key 0 = rs[i].key[0] := by simp [keyAt, hk]
                  rw [← hFF, fstS_at hil, e]; exact hs
                have HFV : Hid (validB F = true) := by have := HFS.1; rw [hFF] at this; exact this
                have hF512 : F.length ≤ 512 := by have := HFS.2.1; rw [hFF] at this; exact this
                obtain ⟨kn, hkn⟩ : ∃ kn, rs[i].key.length = kn := ⟨_, rfl⟩
                have hkn0 : (0 : Int) < (kn : Int) := by have := hOk.k0; omega
                have hkn1 : 0 < kn := by have := hOk.k0; omega
                rw [hkn] at hkv
                subst hkv
                obtain ⟨a1, n1, c1, rfl⟩ := hR.a.sl
                obtain ⟨a3, n3, c3, rfl⟩ := hR.p.sl
                obtain ⟨a5, n5, c5, rfl⟩ := hR.r.sl
                have HSV : Hid (Rs w1 sv F) := hs2
                obtain ⟨sa, sc, hsv, hsc1, hsc2⟩ := hs2
                subst hsv
                obtain ⟨sn, hsn⟩ : ∃ sn, F.length = sn := ⟨_, rfl⟩
                have HSN : Hid (F.length = sn) := hsn
                rw [hsn] at HSV qs hF512
                have hsnI : (sn : Int) ≤ 512 := by omega
                generalize rs[i].bg = xb at q0 HC
                generalize rs[i].en = xe at q4 HC
                generalize rs[i].cu = xc at q6 HC
                have k0 := fun m os => ((Grown.refl wr).quiet m os).cellv (show wr.cell? ⟨sp, 0, none⟩ = some (.slice la N lc) by rw [cell_of hblk]; simp)
                have k1 := fun m os => ((Grown.refl wr).quiet m os).cellv (show wr.cell? ⟨sp, 1, none⟩ = some (.slice (some ⟨gw, 0, none⟩) N cw) by rw [cell_of hblk]; simp)
                have p0 := fun m os => ((Grown.refl wr).quiet m os).cellv q0
                have p1 := fun m os => ((Grown.refl wr).quiet m os).cellv q1
                have p2 := fun m os => ((Grown.refl wr).quiet m os).cellv q2
                have p3 := fun m os => ((Grown.refl wr).quiet m os).cellv q3
                have p4 := fun m os => ((Grown.refl wr).quiet m os).cellv q4
                have p5 := fun m os => ((Grown.refl wr).quiet m os).cellv q5
                have p6 := fun m os => ((Grown.refl wr).quiet m os).cellv q6
                have ps := fun m os => ((Grown.refl wr).quiet m os).cellv qs
                have HQG : Hid (∀ m' os, LQ w1 rs st (.slice la N lc) L W0 (Go.Sort.grow (wr.drewN m') os) m) := fun m' os => HQ.out.grown ((Grown.refl wr).quiet m' os)
                clear HQ hLS ht1 ht2 hcw hcel hfz hset hblk hPr hPd ha' q0 q1 q2 q3 q4 q5 q6 qs hR hOk hWn HC0 hx HFS hkc hks hkd hs hFF hkn hsc1 hsc2 hsn
                go_wp2
                refine wp_region_quiet_grown mixed (by kernel_rfl) ?_
                repeat (go_big_quiet_step ((go_at_call 50; exact grown_of (HC.out _ _))))
                refine wpQuiet_nil ?_
                intro _ hw'
                obtain ⟨⟨nq, osq⟩, hw''⟩ := hw'
                subst hw''
                obtain ⟨wB, hwB⟩ : ∃ wB, wB = Go.Sort.grow (wr.drewN nq) osq := ⟨_, rfl⟩
                have r2 := p2 nq osq
                have rS := ps nq osq
                have HQB : Hid (LQ w1 rs st (.slice la N lc) L W0 wB m) := by rw [hwB]; exact HQG.out nq osq
                clear k0 k1 p0 p1 p2 p3 p4 p5 p6 ps HC HQG
                simp only [← hwB] at r2 rS ⊢
                clear hwB
                go_wp2
                go_loopw [6, 10] (fun v6 v10 wr => ∃ (m : Bool) (k : Nat), v6 = .bool m ∧ v10 = .int .i64 k ∧ k ≤ sn ∧ Hid (LQ w1 rs st (.slice la N lc) L W0 wr m)) (fun _ v10 _ => sn - (intOf v10).toNat)
                case atStart => exact ⟨m, 0, rfl, rfl, by omega, HQB⟩
                case round =>
                  clear HQB r2 rS
                  obtain ⟨m, j, rfl, rfl, hj, HQ⟩ := hrel
                  have hj0 : (0 : Int) ≤ (j : Int) := by omega
                  by_cases hltj : j < sn
                  · have hltj' : (j : Int) < (sn : Int) := by omega
                    go_upto_block 7 with fail
                    go_cut [6] (fun s wx => ∃ m, s = .bool m ∧ Hid (LQ w1 rs st (.slice la N lc) L W0 wx m))
                    case rest =>
                      obtain ⟨m', rfl, HQ'⟩ := hcut
                      go_wp2
                      exact ⟨⟨m', j + 1, rfl, by go_num, by omega, HQ'⟩, by simp [intOf]; omega⟩
                    case first =>
                      have hjF : j < F.length := by rw [HSN.out]; exact hltj
                      have hil : i < rs.length := by rw [HN.out]; exact hlti
                      obtain ⟨wv, W, hLS, ht1, ht2⟩ := HQ.out
                      have hblk := hLS.blk
                      rw [HSP.out] at hblk
                      obtain ⟨sa', sc', es, _, hsr⟩ := HSV.out
                      obtain ⟨sg, so, hsa, hsd⟩ := hsr.resolve_left (fun e => by rw [e] at hjF; simp at hjF)
                      injection es with e1 e2 e3
                      clear e2 e3
                      rw [hsa] at e1
                      subst e1
                      obtain ⟨c1, c2⟩ := hsd j hjF
                      have c1 := cell_below c1 hLS.bel (Nat.le_refl _)
                      have c2 := cell_below c2 hLS.bel (Nat.le_refl _)
                      have HFI : Hid (∀ k, plc L (rg F j).1 ≤ k → k < N → bAt L k ≤ (rg F j).2 → hasU F (bAt L k)) := fun k h1 h2 h3 => by
                        have := first_in HSL.out hil (j := j) (k := k) (by rw [HFE.out]; exact hjF) (by rw [HFE.out]; exact h1) (by rw [HNL.out]; exact h2) (by rw [HFE.out]; exact h3)
                        rw [HFE.out] at this; exact this
                      have hplt := plc_lt (rg F j).1 (show 0 < L.length by rw [HNL.out]; exact HLl.out.1)
                      rw [HNL.out] at hplt
                      have HC0 := fun (V : World) (hg : Grown wr V) => place_any (.slice la N lc) L (rg F j).1 V (HIL.out.below ((hLS.grown hg).bel) (Nat.le_refl _)) (by rw [HNL.out]; have := HLl.out.2; omega)
                      obtain ⟨lo, hlo⟩ : ∃ lo, (rg F j).1 = lo := ⟨_, rfl⟩
                      obtain ⟨hh, hhh⟩ : ∃ hh, (rg F j).2 = hh := ⟨_, rfl⟩
                      rw [hlo] at c1 HFI hplt HC0
                      rw [hhh] at c2 HFI
                      have HHH : Hid ((rg F j).2 = hh) := hhh
                      obtain ⟨pl, hpl⟩ : ∃ pl, plc L lo = pl := ⟨_, rfl⟩
                      rw [hpl] at HFI hplt
                      have HC : Hid (∀ m os, Calls Tryd.prog 31 #[.slice la N lc, .int .i64 lo] (Go.Sort.grow (wr.drewN m) os) fun e w' => e = .returned (.int .i64 pl) ∧ Grown (Go.Sort.grow (wr.drewN m) os) w') := fun m os => (HC0 _ ((Grown.refl wr).quiet m os)).mono fun e w' ⟨h1, h2⟩ => ⟨by rw [h1, hpl], by rw [h2]; exact Grown.refl _⟩
                      have k0 := fun m os => ((Grown.refl wr).quiet m os).cellv (show wr.cell? ⟨sp, 0, none⟩ = some (.slice la N lc) by rw [cell_of hblk]; simp)
                      have k1 := fun m os => ((Grown.refl wr).quiet m os).cellv c1
                      have HQG : Hid (∀ m' os, LQ w1 rs st (.slice la N lc) L W0 (Go.Sort.grow (wr.drewN m') os) m) := fun m' os => HQ.out.grown ((Grown.refl wr).quiet m' os)
                      have c1' := fun m os => ((Grown.refl wr).quiet m os).cellv c2
                      clear HQ hLS ht1 ht2 hblk hsr hsa hsd HC0 hlo hhh hpl
                      go_wp2
                      refine wp_region_quiet_grown mixed (by kernel_rfl) ?_
                      repeat (go_big_quiet_step ((go_at_call 31; exact grown_of (HC.out _ _))))
                      refine wpQuiet_nil ?_
                      intro _ hw'
                      obtain ⟨⟨nq, osq⟩, hw''⟩ := hw'
                      subst hw''
                      have HQB := Hid.mk' (HQG.out nq osq)
                      generalize Go.Sort.grow (wr.drewN nq) osq = wB at HQB ⊢
                      clear k0 k1 c1' HC HQG c1 c2
                      go_wp2
                      go_loopw [6, 11] (fun v6 v11 wr => ∃ (m : Bool) (a : Nat), v6 = .bool m ∧ v11 = .int .i64 a ∧ pl ≤ a ∧ a ≤ N ∧ Hid (LQ w1 rs st (.slice la N lc) L W0 wr m)) (fun _ v11 _ => N - (intOf v11).toNat)
                      case atStart => exact ⟨m, pl, rfl, rfl, Nat.le_refl _, by omega, HQB⟩
                      case round =>
                        clear HQB
                        obtain ⟨m, a, rfl, rfl, ha1, ha2, HQ⟩ := hrel
                        have ha0 : (0 : Int) ≤ (a : Int) := by omega
                        have hil : i < rs.length := by rw [HN.out]; exact hlti
                        have hjF : j < F.length := by rw [HSN.out]; exact hltj
                        obtain ⟨wv, W, hLS, ht1, ht2⟩ := HQ.out
                        obtain ⟨gw, cw, hwv, hcw, hcel, hfz, hset⟩ := hLS.form (by rw [HNL.out]; exact HLl.out.1)
                        rw [HNL.out] at hwv hcel
                        subst hwv
                        have hblk := hLS.blk
                        rw [HSP.out] at hblk
                        have d0 : wr.cell? ⟨sp, 0, none⟩ = some (.slice la N lc) := by rw [cell_of hblk]; simp
                        have d1 : wr.cell? ⟨sp, 1, none⟩ = some (.slice (some ⟨gw, 0, none⟩) N cw) := by rw [cell_of hblk]; simp
                        have hIL2 := HIL.out.below hLS.bel (Nat.le_refl _)
                        obtain ⟨sa', sc', es, _, hsr⟩ := HSV.out
                        obtain ⟨sg', so', hsa, hsd⟩ := hsr.resolve_left (fun e => by rw [e] at hjF; simp at hjF)
                        injection es with e1 e2 e3
                        rw [hsa] at e1
                        injection e1 with e1
                        injection e1 with e1 e4
                        subst e1 e4
                        clear e2 e3 hsa
                        have c2 := cell_below (hsd j hjF).2 hLS.bel (Nat.le_refl _)
                        rw [HHH.out] at c2
                        have HQG : Hid (∀ V, Grown wr V → LQ w1 rs st (.slice la N lc) L W0 V m) := fun V hg => HQ.out.grown hg
                        by_cases h1 : a < N
                        · have h1I : (a : Int) < (N : Int) := by omega
                          have h1d : decide ((a : Int) < (N : Int)) = true := by simpa using h1I
                          have h1n : decide (a < N) = true := by simpa using h1
                          have HST : Hid (bAt L a ≤ hh → bAt W a < x → ∀ V, Grown wr V → LQ w1 rs st (.slice la N lc) L W0 (V.setCell ⟨gw, a, none⟩ (.int .i64 x)) true) := fun hle hlt V hg => by
                            have hL2 := hLS.grown hg
                            obtain ⟨gw', cw', hwv', _, _, _, hset'⟩ := hL2.form (by rw [HNL.out]; exact HLl.out.1)
                            injection hwv' with z1 z2 z3
                            injection z1 with z1
                            injection z1 with z1
                            subst z1
                            have hu : hasU (fstS rs i) (bAt L a) := by rw [HFE.out]; exact HFI.out a ha1 h1 hle
                            have hWB := hLS.wb.set (k := a) (by rw [HNL.out]; exact h1) hil hu (by rw [HFE.out]; exact HFV.out) hlt HXW.out
                            have hmore := tws_more (W := W) (k := a) (n := x) (by rw [hLS.wb.e, HNL.out]; exact h1) (by have := (hLS.wb.b a (by rw [HNL.out]; exact h1)).1; omega) hlt
                            exact ⟨_, _, hset' a x hWB, by omega, fun _ => by omega⟩
                          obtain ⟨lg, lo2, hla, cl⟩ := ir_cell hIL2 (j := a) (by rw [HNL.out]; exact h1)
                          subst hla
                          have cw1 := hcel a h1
                          by_cases h2 : bAt L a ≤ hh
                          · by_cases h3 : x ≤ bAt W a
                            · generalize bAt L a = y1 at cl h2
                              generalize bAt W a = y2 at cw1 h3
                              clear HST hset hfz hcel hLS hIL2 hsd hsr HQ ht1 ht2 hblk
                              go_wp2
                              go_quiet (fail)
                              go_wp2
                              exact ⟨⟨m, a + 1, rfl, by go_num, by omega, by omega, HQG.out _ (by (repeat (first | exact Grown.refl _ | refine Grown.alloc ?_ _ | refine Grown.drew ?_ | refine Grown.drewN ?_ _ | refine Grown.quiet ?_ _ _)))⟩, by simp [intOf]; omega⟩
                            · have HS2 := Hid.mk' (HST.out h2 (by omega))
                              have f1 := hfz a
                              generalize bAt L a = y1 at cl h2
                              generalize bAt W a = y2 at cw1 h3
                              have h3d : decide (x ≤ y2) = false := by simpa using h3
                              have h4d : ¬ 64 < x := by omega
                              clear HST hset hfz hcel hLS hIL2 hsd hsr HQ ht1 ht2 hblk HQG
                              go_wp2
                              go_quiet (fail)
                              go_wp2
                              exact ⟨⟨true, a + 1, rfl, by go_num, by omega, by omega, HS2.out _ (by (repeat (first | exact Grown.refl _ | refine Grown.alloc ?_ _ | refine Grown.drew ?_ | refine Grown.drewN ?_ _ | refine Grown.quiet ?_ _ _)))⟩, by simp [intOf]; omega⟩
                          · generalize bAt L a = y1 at cl h2
                            have h2d : decide (y1 ≤ hh) = false := by simpa using h2
                            clear HST hset hfz hcel hLS hIL2 hsd hsr HQ ht1 ht2 hblk cw1
                            go_wp2
                            go_quiet (fail)
                            go_wp2
                            go_meet
                            exact ⟨m, rfl, HQG.out _ (by (repeat (first | exact Grown.refl _ | refine Grown.alloc ?_ _ | refine Grown.drew ?_ | refine Grown.drewN ?_ _ | refine Grown.quiet ?_ _ _)))⟩
                        · have h1I : ¬ (a : Int) < (N : Int) := by omega
                          have h1d : decide ((a : Int) < (N : Int)) = false := by simpa using h1I
                          have h1n : decide (a < N) = false := by simpa using h1
                          clear hset hfz hcel hLS hIL2 hsd hsr HQ ht1 ht2 hblk
                          go_wp2
                          go_quiet (fail)
                          go_wp2
                          go_meet
                          exact ⟨m, rfl, HQG.out _ (by (repeat (first | exact Grown.refl _ | refine Grown.alloc ?_ _ | refine Grown.drew ?_ | refine Grown.drewN ?_ _ | refine Grown.quiet ?_ _ _)))⟩
                  · have hge : ¬ (j : Int) < (sn : Int) := by omega
                    have HQ2 := HQ
                    clear HQ
                    go_wp2
                    go_meet
                    exact ⟨m, rfl, HQ2⟩
            · have hge : ¬ (i : Int) < (n : Int) := by omega
              go_wp2
              go_roundg (gk - 1)
              case measure =>
                obtain ⟨_, W, h2, h3, _⟩ := HQ.out
                have h1 := HM.out
                have h4 := h2.wb.tws HF.out
                rw [HNL.out] at h4
                omega
              case rel =>
                refine ⟨m, rfl, ?_⟩
                obtain ⟨wv, W, h2, h3, h4⟩ := HQ.out
                refine ⟨wv, W, h2, fun hm => ?_⟩
                have h1 := HM.out
                have := h4 hm
                omega

end Go.Proofs
