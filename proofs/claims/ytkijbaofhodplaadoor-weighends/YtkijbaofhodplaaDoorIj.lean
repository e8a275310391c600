/-
  WeighEnds.
-/
import Derived.RangeFuncNested
import Derived.RangeFuncBound
import Derived.RangeFuncCalls
import Derived.RangeFuncLeaves
import Derived.Shelf.Abstract
import Derived.Shelf.RegionOpen
import Derived.WalkKit
import Derived.WalkSpells
import Derived.WalkLawsBesides
import Derived.OwnWalkIn
import Derived.TacticsInMore
import Derived.LoopNIn
import Derived.LoopIn
import Derived.BigQuiet
import Derived.RegionIn
import Derived.Deep.QuietTactic
import Derived.Deep.RegionWith
import Derived.Lib.OthersKept
import Derived.Maps.AppendAt
import Derived.Lib.SmallJoins
import Derived.Shelf.SlSortCmp.QuietGrown
import Derived.Deep.DeepCutAuto
import Derived.Deep.CutBlock
import Derived.Maps.Views
import Derived.Maps.OwnSet
import Derived.Maps.Own
import Derived.Test.YtkijbaofhodplaaDoorIz
namespace Go.Proofs
open Go.RowKit Go.Shelf

set_option maxRecDepth 100000
attribute [local go_sem] Oper.semAt_some
attribute [local go_sem ↓] Go.wp_at_zero Go.wp_at_succ

theorem pS_app (rs : List Rl) (a b : List Int) : pS rs (a ++ b) = pS rs a + pS rs b := by
  induction a with
  | nil => simp [pS]
  | cons x a ih => simp only [List.cons_append, pS, ih]; omega
/-- what is put back at a step -/
def bkA (rs : List Rl) (l : List Int) (x : Stp) : List Int := if x.r < 0 then [] else ((rs[x.r.toNat]?).map fun r => (outs r (l.take x.t.toNat)).drop r.cu.toNat).getD []
structure SF (rs : List Rl) (l : List Int) (x : Stp) (tk : Nat) : Prop where
  t : x.t = tk
  t1 : 1 ≤ tk
  t8 : tk ≤ 8
  tl : tk ≤ l.length
  a0 : 0 ≤ x.a
  a16 : x.a ≤ 16
  st : bkA rs l x ++ l.drop tk = stepL rs l x
  un : AllU (bkA rs l x)
  lt : pS rs (bkA rs l x) < pS rs (l.take tk)
  b16 : (bkA rs l x).length ≤ 16
  kd : x.r = -1 ∨ ∃ i : Nat, ∃ hi : i < rs.length, x.r = i ∧ layB rs[i] (l.take tk) = true ∧ bkA rs l x = (outs rs[i] (l.take tk)).drop rs[i].cu.toNat
theorem step_facts {rs : List Rl} {st : St} {c : Int × Int} (hw : wgh rs = (some st, c)) {l : List Int} {x : Stp} (h : OkStp rs l x) (hu : AllU l) : ∃ tk, SF rs l x tk := by
  have hF := wgh_fin hw
  have hlt := h.light hF
  rcases h with ⟨h1, h2, h3, h4⟩ | ⟨i, hi, h1, h2, h3, h4, h5⟩
  · refine ⟨1, h2, Nat.le_refl _, by omega, h4, by omega, by omega, ?_, ?_, ?_, ?_, .inl h1⟩
    · simp [bkA, stepL, h1]
    · simp [bkA, h1, AllU]
    · match l, h4, hu with
      | u :: l, _, hu =>
        simp only [bkA, h1]
        rw [if_pos (by decide)]
        have := (hF.wK_in u).1
        simp only [List.take_succ_cons, List.take_zero, pS]
        rw [wgtP_unit hw (hu u (by simp))]
        omega
    · simp [bkA, h1]
  · have hO := hF.ok _ (List.getElem_mem hi)
    have e1 : x.t.toNat = rs[i].key.length := by omega
    have e2 : bkA rs l x = (outs rs[i] (l.take rs[i].key.length)).drop rs[i].cu.toNat := by
      unfold bkA
      rw [if_neg (by omega), h1, e1]
      simp [hi]
    have e3 : bkA rs l x = (backP rs[i]).map (wrt rs[i].key (l.take rs[i].key.length)) := by rw [e2]; simp [outs, backP, List.map_drop]
    have hs : bkA rs l x ++ l.drop rs[i].key.length = stepL rs l x := by rw [stepL_rule hi h1 h2, e3]
    have hun : AllU (bkA rs l x) := by rw [e3]; exact back_units h4
    refine ⟨rs[i].key.length, h2, hO.k0, hO.k8, h3, by rw [h5]; exact hO.c0, by rw [h5]; have := hO.c1; have := hO.r16; omega, hs, hun, ?_, ?_, .inr ⟨i, hi, h1, h4, e2⟩⟩
    · rw [pS_eq hw hun, pS_eq hw (fun u h => hu u (List.mem_of_mem_take h)), e3]
      have := hF.light hi h4
      omega
    · rw [e3, List.length_map]
      have := hO.r16
      simp [backP]
      omega
/-- a row of steps that reads -/
def StR (w : World) (v : Value) (xs : List Stp) : Prop := ∃ a c, v = .slice a xs.length c ∧ xs.length ≤ c ∧ (xs = [] ∨ ∃ g, a = some ⟨g, 0, none⟩ ∧ ∀ (j : Nat) (hj : j < xs.length), w.cell? ⟨g, j * 6, none⟩ = some (.int .i64 xs[j].r) ∧ w.cell? ⟨g, j * 6 + 1, none⟩ = some (.int .i64 xs[j].d) ∧ w.cell? ⟨g, j * 6 + 2, none⟩ = some (.int .i64 xs[j].l) ∧ w.cell? ⟨g, j * 6 + 3, none⟩ = some (.int .i64 xs[j].t) ∧ w.cell? ⟨g, j * 6 + 4, none⟩ = some (.int .i64 xs[j].a) ∧ w.cell? ⟨g, j * 6 + 5, none⟩ = some (.int .i64 xs[j].b))
theorem fs_at : ∀ (xs : List Stp) {j i : Nat} (hj : j < xs.length) {u : Value}, (fs1 xs[j])[i]? = some u → (fs xs)[j * 6 + i]? = some u
  | x :: xs, 0, i, _, u, h => by
    have hi : i < 6 := by
      rcases Nat.lt_or_ge i 6 with h1 | h1
      · exact h1
      · rw [List.getElem?_eq_none (by simp [fs1]; omega)] at h; cases h
    have : fs (x :: xs) = fs1 x ++ fs xs := by simp [fs]
    rw [this, Nat.zero_mul, Nat.zero_add, List.getElem?_append_left (by simp [fs1]; omega)]
    exact h
  | x :: xs, j + 1, i, hj, u, h => by
    have : fs (x :: xs) = fs1 x ++ fs xs := by simp [fs]
    rw [this, List.getElem?_append_right (by simp [fs1]; omega)]
    have e : (j + 1) * 6 + i - (fs1 x).length = j * 6 + i := by simp [fs1]; omega
    rw [e]
    exact fs_at xs (by simpa using hj) (by simpa using h)
theorem OwnS.reads {w : World} {base : Nat} {v : Value} {xs : List Stp} (h : OwnS w base v xs) : StR w v xs := by
  rcases h.2 with ⟨rfl, h0⟩ | ⟨g, cap, cur, rfl, hb, hg, hc, _⟩
  · have : xs = [] := List.eq_nil_of_length_eq_zero h0
    subst this
    exact ⟨none, 0, rfl, Nat.le_refl _, .inl rfl⟩
  · refine ⟨_, cap, rfl, hc, .inr ⟨g, rfl, fun j hj => ?_⟩⟩
    have hh := fun i (hi : i < 6) u (hu : (fs1 xs[j])[i]? = some u) => (World.ownsRow.cellAt h (j * 6 + i) (by omega)).trans (fs_at xs hj hu)
    exact ⟨hh 0 (by omega) _ rfl, hh 1 (by omega) _ rfl, hh 2 (by omega) _ rfl, hh 3 (by omega) _ rfl, hh 4 (by omega) _ rfl, hh 5 (by omega) _ rfl⟩
def Keep (w w' : World) : Prop := ∀ (a : Addr) (x : Value), w.cell? a = some x → w'.cell? a = some x
theorem Keep.refl (w : World) : Keep w w := fun _ _ h => h
theorem Keep.trans {a b c : World} (h : Keep a b) (k : Keep b c) : Keep a c := fun x y z => k x y (h x y z)
theorem Grown.keep {a b : World} (h : Grown a b) : Keep a b := fun _ _ z => h.cellv z
theorem keep_below {a b : World} (h : Below a.heap.size a b) : Keep a b := fun _ _ z => cell_below z h (Nat.le_refl _)
theorem keep_map {rs : List Rl} {W W' : World} {m N : Nat} (h : WM rs W m N) (hg : W.grownBy W' (some m)) : Keep W W' := fun _ _ z => h.cell hg z
set_option maxHeartbeats 32000000 in
theorem ends_law (v : Value) (rs : List Rl) (s : ByteArray) (w : World) (hT : Tab w) (hP : PsR w v rs) (hl : rs.length ≤ maxLen) (hz : ∀ r ∈ rs, Go.Proofs.YtkijbaofhodplaaDoor.Lz r) :
    Calls Tryd.prog 4 #[.agg #[v], .string s] w fun e w' => e = .returned (.bool true) ∧ Below w.heap.size w w' := by
  have HT : Hid (Tab w) := hT
  have HP : Hid (PsR w v rs) := hP
  have HB : Hid (∀ W, Grown w W → Calls Tryd.prog 7 #[.agg #[v]] W (BeyQ W)) := fun W hg => beyond_any v rs W (hP.grown hg) hl hz
  have HSh : Hid (∀ W, Below w.heap.size w W → Calls Tryd.prog 8 #[] W fun e w' => e = .returned (.bool true) ∧ Below W.heap.size W w') := fun W hb => shown_any W (hT.below hb hT.pos)
  have HC : Hid (∀ W, Below w.heap.size w W → Calls Tryd.prog 13 #[.agg #[v]] W fun e w' => e = .returned (.tuple #[.int .i64 (chkW rs).1, .int .i64 (chkW rs).2]) ∧ Below W.heap.size W w') := fun W hb => wcheck_any v rs W (hT.below hb hT.pos) (hP.below hb (Nat.le_refl _))
  obtain ⟨va, vc, hv, hx1, hx2⟩ := hP
  clear hx1 hx2
  obtain ⟨n, hn⟩ : ∃ n, rs.length = n := ⟨_, rfl⟩
  have HN : Hid (rs.length = n) := hn
  rw [hn] at hv
  subst hv
  obtain ⟨c1, hc1⟩ : ∃ c1, (chkW rs).1 = c1 := ⟨_, rfl⟩
  obtain ⟨c2, hc2⟩ : ∃ c2, (chkW rs).2 = c2 := ⟨_, rfl⟩
  have HCK : Hid ((chkW rs).2 = c2) := hc2
  rw [hc1, hc2] at HC
  clear hT hn hc1 hc2 hl hz
  obtain ⟨W0, hW0⟩ : ∃ W0, W0 = w.alloc (.cells #[.slice va n vc] 24) := ⟨_, rfl⟩
  have HG0 : Hid (Grown w W0) := by show Grown _ _; rw [hW0]; exact (Grown.refl _).alloc _
  have d0 : W0.cell? ⟨w.heap.size, 0, none⟩ = some (.slice va n vc) := by rw [hW0]; simp
  go_enter Tryd.func4, Tryd.ntmps4
  go_wp2_with fail
  rw [← hW0]
  clear hW0
  refine (HB.out W0 HG0.out).mono ?_
  rintro e W1 ⟨bb, rfl, hg1⟩
  have HB1 : Hid (Below w.heap.size w W1 ∧ Below W0.heap.size W0 W1) := ⟨(HG0.out.trans hg1).below, hg1.below⟩
  clear hg1 HB
  cases bb with
  | true =>
    as_aux_lemma =>
      go_wp2
      go_ret
      exact ⟨rfl, HB1.out.1⟩
  | false =>
    go_wp2_with fail
    refine (HSh.out W1 HB1.out.1).mono ?_
    rintro e W2 ⟨rfl, hb2⟩
    have HB2 : Hid (Below w.heap.size w W2 ∧ Below W0.heap.size W0 W2) := ⟨HB1.out.1.trans (hb2.mono HB1.out.1.size), HB1.out.2.trans (hb2.mono HB1.out.2.size)⟩
    have d2 := cell_below d0 HB2.out.2 (Nat.le_refl _)
    clear hb2 HB1 HSh
    go_wp2_with fail
    refine (HC.out W2 HB2.out.1).mono ?_
    rintro e W3 ⟨rfl, hb3⟩
    have HB3 : Hid (Below w.heap.size w W3 ∧ Below W0.heap.size W0 W3) := ⟨HB2.out.1.trans (hb3.mono HB2.out.1.size), HB2.out.2.trans (hb3.mono HB2.out.2.size)⟩
    have d3 := cell_below d0 HB3.out.2 (Nat.le_refl _)
    clear hb3 HB2 HC d2
    by_cases hc : c2 = 0
    · subst hc
      obtain ⟨st, hst⟩ := wgh_zero HCK.out
      have HST : Hid (wgh rs = (some st, 0, 0)) := hst
      have HFin : Hid (Fin rs st) := wgh_fin hst
      clear hst
      by_cases h300 : 300 < s.size
      · as_aux_lemma =>
          have h300' : (300 : Int) < (s.size : Int) := by omega
          go_wp2
          go_ret
          exact ⟨rfl, HB3.out.1⟩
      · have h300' : ¬ (300 : Int) < (s.size : Int) := by omega
        have h300d : decide ((300 : Int) < (s.size : Int)) = false := by simp; omega
        have h300e : decide (300 < s.size) = false := by simp; omega
        have hss : s.size ≤ 300 := by omega
        have HC9 : Hid (∀ W, Below w.heap.size w W → Calls Tryd.prog 9 #[.agg #[.slice va n vc]] W fun e w' => e = .returned (.tuple #[.int .i64 0, .int .i64 0]) ∧ Below W.heap.size W w') := fun W hb => rchk_ok _ rs st _ W (HP.out.below hb (Nat.le_refl _)) HST.out
        have HC15 : Hid (∀ W, Below w.heap.size w W → Calls Tryd.prog 15 #[.agg #[.slice va n vc], .string s] W fun e w' => e = .returned (.int .i64 (sumW rs st.ws (units s))) ∧ Below W.heap.size W w') := fun W hb => bound_ok _ rs st s W (HT.out.below hb HT.out.pos) (HP.out.below hb (Nat.le_refl _)) (by omega) HST.out
        have HC17 : Hid (∀ W, Calls Tryd.prog 17 #[.string s] W fun e w' => ∃ v, e = .returned v ∧ IR w' v (intsU (units s)) ∧ Below W.heap.size W w') := fun W => rcut_any s W (by omega)
        have HC19 : Hid (∀ W, Below w.heap.size w W → Calls Tryd.prog 19 #[.agg #[.slice va n vc], .string s] W (GoQ W rs (intsU (units s)))) := fun W hb => rgo_any _ rs st _ s W (HP.out.below hb (Nat.le_refl _)) HST.out (by omega)
        have HUA : Hid (AllU (intsU (units s)) ∧ (intsU (units s)).length ≤ 300) := ⟨units_all s, by rw [intsU_length]; have := units_len s; omega⟩
        have HSW : Hid (sumW rs st.ws (units s) = wS rs st (intsU (units s))) := sumW_wS rs st _
        obtain ⟨l0, hl0⟩ : ∃ l0, intsU (units s) = l0 := ⟨_, rfl⟩
        obtain ⟨T, hT⟩ : ∃ T, sumW rs st.ws (units s) = T := ⟨_, rfl⟩
        rw [hl0] at HC17 HC19 HUA HSW
        rw [hT] at HC15 HSW
        clear hl0 hT HCK
        go_wp2_with fail
        refine (HC9.out W3 HB3.out.1).mono ?_
        rintro e W4 ⟨rfl, hb4⟩
        have HB4 : Hid (Below w.heap.size w W4 ∧ Below W0.heap.size W0 W4) := ⟨HB3.out.1.trans (hb4.mono HB3.out.1.size), HB3.out.2.trans (hb4.mono HB3.out.2.size)⟩
        have d4 := cell_below d0 HB4.out.2 (Nat.le_refl _)
        clear hb4 HB3 HC9 d3
        go_wp2_with fail
        refine (HC15.out W4 HB4.out.1).mono ?_
        rintro e W5 ⟨rfl, hb5⟩
        have HB5 : Hid (Below w.heap.size w W5 ∧ Below W0.heap.size W0 W5) := ⟨HB4.out.1.trans (hb5.mono HB4.out.1.size), HB4.out.2.trans (hb5.mono HB4.out.2.size)⟩
        clear hb5 HB4 HC15 d4
        go_wp2_with fail
        refine (HC17.out W5).mono ?_
        rintro e W6 ⟨lv0, rfl, hIL, hb6⟩
        have HIL : Hid (IR W6 lv0 l0) := hIL
        have HB6 : Hid (Below w.heap.size w W6 ∧ Below W0.heap.size W0 W6) := ⟨HB5.out.1.trans (hb6.mono HB5.out.1.size), HB5.out.2.trans (hb6.mono HB5.out.2.size)⟩
        have d6 := cell_below d0 HB6.out.2 (Nat.le_refl _)
        obtain ⟨la, lc, hlv, hx1, hx2⟩ := hIL
        clear hx1 hx2
        subst hlv
        obtain ⟨n0, hn0⟩ : ∃ n0, l0.length = n0 := ⟨_, rfl⟩
        have HN0 : Hid (l0.length = n0) := hn0
        rw [hn0] at HIL ⊢
        have hn0I : (n0 : Int) ≤ 300 := by have := HUA.out.2; omega
        clear hb6 HB5 HC17 hn0 d0
        have hmm := @run_makeMap Tryd.prog
        go_upto_block 0 with fail
        obtain ⟨m, hm⟩ : ∃ m, W6.heap.size = m := ⟨_, rfl⟩
        have HM : Hid (W6.heap.size = m) := hm
        have HW7 : Hid (WM rs (W6.alloc (.map #[] 0)) m 0 ∧ Below W6.heap.size W6 (W6.alloc (.map #[] 0))) := ⟨⟨_, by rw [← hm]; exact IMap.made W6, fun k v e => by cases e⟩, ((Grown.refl W6).alloc _).below⟩
        generalize W6.alloc (.map #[] 0) = W7 at HW7 ⊢
        rw [hm]
        clear hm hmm
        have HK : Hid (∀ V, Below W6.heap.size W6 V → Tab V ∧ PsR V (.slice va n vc) rs ∧ V.cell? ⟨w.heap.size, 0, none⟩ = some (.slice va n vc) ∧ IR V (.slice la n0 lc) l0 ∧ Below w.heap.size w V) := fun V hb => by
          have hbl := HB6.out.1.trans (hb.mono HB6.out.1.size)
          exact ⟨HT.out.below hbl HT.out.pos, HP.out.below hbl (Nat.le_refl _), cell_below d6 hb (Nat.le_refl _), HIL.out.below hb (Nat.le_refl _), hbl⟩
        have HWT : Hid (∀ V N u, Below W6.heap.size W6 V → WM rs V m N → N < 1000000000 → InI u → Calls Tryd.prog 18 #[.agg #[.slice va n vc], .map (some m), .int .i64 u] V fun e w' => e = .returned (.int .i64 (wgtP rs u)) ∧ WM rs w' m (N + 1) ∧ V.grownBy w' (some m) ∧ Below W6.heap.size W6 w') := fun V N u hb hm hN hu => by
          have hk := HK.out V hb
          refine (lweight_any _ rs u V m N hk.1 hk.2.1 hm (by omega) hu).mono ?_
          rintro e w' ⟨h1, h2, h3⟩
          exact ⟨h1, h2, h3, hb.grown h3 hb.size (fun k hk => by injection hk with hk; have := HM.out; omega)⟩
        clear d6 HB6
        go_cut [12] (fun s12 wx => s12 = .int .i64 T ∧ Hid (∃ N, N ≤ 300 ∧ WM rs wx m N ∧ Below W6.heap.size W6 wx))
        case first =>
          go_wp2
          go_loopw [12, 13] (fun v12 v13 wr => ∃ (k N : Nat) (t : Int), v13 = .int .i64 k ∧ v12 = .int .i64 t ∧ k ≤ n0 ∧ 0 ≤ t ∧ t ≤ 64 * k ∧ Hid (t = pS rs (l0.take k) ∧ N ≤ k ∧ WM rs wr m N ∧ Below W6.heap.size W6 wr)) (fun _ v13 _ => n0 - (intOf v13).toNat)
          case atStart => exact ⟨0, 0, 0, rfl, rfl, by omega, by omega, by omega, rfl, by omega, HW7.out.1, HW7.out.2⟩
          case round =>
            clear HW7
            obtain ⟨k, N, t, rfl, rfl, hk, ht0, ht1, HX⟩ := hrel
            have hk0 : (0 : Int) ≤ (k : Int) := by omega
            by_cases hlt : k < n0
            · have hlt' : (k : Int) < (n0 : Int) := by omega
              have hkl : k < l0.length := by rw [HN0.out]; exact hlt
              obtain ⟨_, _, cp, hI, _⟩ := HK.out wr HX.out.2.2.2
              obtain ⟨lg, lo, hla, cl⟩ := ir_cell hI (j := k) hkl
              have hbk : bAt l0 k = l0[k] := by simp [bAt, hkl]
              rw [hbk] at cl
              subst hla
              have hxm := List.getElem_mem hkl
              have hxI := allU_bound HUA.out.1 hxm
              have hwg : 1 ≤ wgtP rs l0[k] ∧ wgtP rs l0[k] ≤ 64 := by rw [wgtP_unit HST.out (HUA.out.1 _ hxm)]; exact HFin.out.wK_in _
              have HPS : Hid (pS rs (l0.take (k + 1)) = pS rs (l0.take k) + wgtP rs l0[k]) := pS_succ rs hkl
              have HV : Hid (∀ V, Grown wr V → Calls Tryd.prog 18 #[.agg #[.slice va n vc], .map (some m), .int .i64 l0[k]] V fun e w' => e = .returned (.int .i64 (wgtP rs l0[k])) ∧ WM rs w' m (N + 1) ∧ V.grownBy w' (some m) ∧ Below W6.heap.size W6 w') := fun V hg => HWT.out V N _ (HX.out.2.2.2.trans (hg.below.mono HX.out.2.2.2.size)) (HX.out.2.2.1.kept fun o ho => (hg.below.block _ (blk_lt ho)).trans ho) (by have := HX.out.2.1; omega) hxI
              obtain ⟨wg, hwg'⟩ : ∃ wg, wgtP rs l0[k] = wg := ⟨_, rfl⟩
              rw [hwg'] at hwg HPS HV
              obtain ⟨x, hx⟩ : ∃ x, l0[k] = x := ⟨_, rfl⟩
              rw [hx] at cl HV
              obtain ⟨hw1, hw2⟩ := hwg
              have hw3 : ¬ wg < 1 := by omega
              have hw4 : ¬ 64 < wg := by omega
              have hw5 : decide (wg < 1) = false := by simp; omega
              have hw6 : decide (64 < wg) = false := by simp; omega
              have HF : Hid (∀ w', WM rs w' m (N + 1) → Below W6.heap.size W6 w' → t + wg = pS rs (l0.take (k + 1)) ∧ N + 1 ≤ k + 1 ∧ WM rs w' m (N + 1) ∧ Below W6.heap.size W6 w') := fun w' h1 h2 => ⟨by rw [HPS.out, HX.out.1], by have := HX.out.2.1; omega, h1, h2⟩
              clear hI hbk hxm hxI hwg' hx HX HPS
              go_wp2
              go_region_with (go_at_call 18; go_must (refine (HV.out _ (by (repeat (first | exact Grown.refl _ | refine Grown.alloc ?_ _ | refine Grown.drew ?_ | refine Grown.drewN ?_ _ | refine Grown.quiet ?_ _ _)))).mono ?_; rintro e w2 ⟨rfl, h1, h2, h3⟩; have HQ := Hid.mk' (HF.out w2 h1 h3); clear h1 h2 h3))
              all_goals (go_wp2; exact ⟨⟨k + 1, N + 1, t + wg, by go_num, by go_num, by omega, by omega, by omega, HQ⟩, by simp [intOf]; omega⟩)
            · have hge : ¬ (k : Int) < (n0 : Int) := by omega
              have HQ : Hid (t = T ∧ ∃ N, N ≤ 300 ∧ WM rs wr m N ∧ Below W6.heap.size W6 wr) := by
                have hx := HX.out
                rw [List.take_of_length_le (by rw [HN0.out]; omega)] at hx
                exact ⟨by rw [hx.1, pS_eq HST.out HUA.out.1, HSW.out], N, by omega, hx.2.2.1, hx.2.2.2⟩
              clear HX
              go_wp2
              go_meet
              exact ⟨by rw [HQ.out.1], HQ.out.2⟩
        case rest =>
          obtain ⟨hs12, hcut2⟩ := hcut
          subst hs12
          obtain ⟨N1, hN1, hM1, hB7⟩ := hcut2.out
          have HA : Hid (N1 ≤ 300 ∧ WM rs wc m N1 ∧ Below W6.heap.size W6 wc) := ⟨hN1, hM1, hB7⟩
          have cp := (HK.out wc hB7).2.2.1
          have HGo := Hid.mk' (HC19.out wc (HK.out wc hB7).2.2.2.2)
          clear hcut2 hN1 hM1 hB7 HW7 HC19
          go_wp2_with fail
          refine HGo.out.mono ?_
          rintro e W8 ⟨uv, sv, d, xs, rfl, ⟨u1, u2, u3, rfl⟩, ⟨q1, q2, q3, rfl⟩, hOI, hOS, hok, hlf, hsa, hB8⟩
          have HGQ : Hid (OwnI W8 wc.heap.size (.slice u1 u2 u3) d ∧ OwnS W8 wc.heap.size (.slice q1 q2 q3) xs ∧ GoOk rs l0 xs ∧ lft rs l0 xs = [] ∧ (d.length : Int) = sumA xs ∧ Below wc.heap.size wc W8) := ⟨hOI, hOS, hok, hlf, hsa, hB8⟩
          have hq2 : xs.length = q2 := by obtain ⟨a, c, e⟩ := hOS.ssl; injection e with _ e2; omega
          have hu2 : d.length = u2 := by obtain ⟨a, c, e⟩ := hOI.sl; injection e with _ e2; omega
          have hqT : (q2 : Int) ≤ T := by
            have := hok.weight HFin.out xs.length (Nat.le_refl _)
            rw [List.take_length, hlf, ← HSW.out] at this
            simp [wS] at this
            omega
          have HQL : Hid (xs.length = q2 ∧ d.length = u2) := ⟨hq2, hu2⟩
          have hTB : T ≤ 19200 := by
            have := (wS_len HFin.out l0).2
            have := HSW.out
            have := HUA.out.2
            omega
          have hqn : ¬ T < (q2 : Int) := by omega
          have HA8 : Hid (WM rs W8 m N1 ∧ Below W6.heap.size W6 W8) := ⟨HA.out.2.1.kept (fun o ho => (hB8.block _ (blk_lt ho)).trans ho), HA.out.2.2.trans (hB8.mono HA.out.2.2.size)⟩
          clear hOI hOS hok hlf hsa hB8 HGo hq2 hu2 cp
          go_upto_region 28 with fail
          obtain ⟨W9, hW9⟩ : ∃ W9, W9 = W8.alloc (.cells #[.slice u1 u2 u3, .slice q1 q2 q3] 46) := ⟨_, rfl⟩
          obtain ⟨db, hdb⟩ : ∃ db, W8.heap.size = db := ⟨_, rfl⟩
          have HS9 : Hid (W9.cell? ⟨db, 0, none⟩ = some (.slice u1 u2 u3) ∧ W9.cell? ⟨db, 1, none⟩ = some (.slice q1 q2 q3) ∧ StR W9 (.slice q1 q2 q3) xs ∧ WM rs W9 m N1 ∧ Below W6.heap.size W6 W9 ∧ IR W9 (.slice la n0 lc) l0) := by
            have hg : Grown W8 W9 := by rw [hW9]; exact (Grown.refl _).alloc _
            have hb := HA8.out.2.trans (hg.below.mono HA8.out.2.size)
            refine ⟨by rw [hW9, ← hdb]; simp, by rw [hW9, ← hdb]; simp, (OwnS.below HGQ.out.2.1 hg.below (Nat.le_refl _)).reads, HA8.out.1.kept (fun o ho => (hg.below.block _ (blk_lt ho)).trans ho), hb, (HK.out W9 hb).2.2.2.1⟩
          rw [← hW9, hdb]
          clear hW9 hdb HA8
          go_wp2
          go_loopw [16, 17, 18] (fun v16 v17 v18 wr => ∃ (k N : Nat) (f : Int), v18 = .int .i64 k ∧ v17 = .int .i64 f ∧ k ≤ q2 ∧ 0 ≤ f ∧ f ≤ 16 * k ∧ Hid (IR wr v16 (lft rs l0 (xs.take k)) ∧ f = sumA (xs.take k) ∧ N ≤ 300 + 100 * k ∧ WM rs wr m N ∧ Below W6.heap.size W6 wr ∧ Keep W9 wr)) (fun _ _ v18 _ => q2 - (intOf v18).toNat)
          case atStart => exact ⟨0, N1, 0, rfl, rfl, by omega, by omega, by omega, by simpa [lft] using HS9.out.2.2.2.2.2, rfl, by have := HA.out.1; omega, HS9.out.2.2.2.1, HS9.out.2.2.2.2.1, Keep.refl _⟩
          case round =>
            obtain ⟨k, N, f, rfl, rfl, hk, hf0, hf1, HX⟩ := hrel
            have hk0 : (0 : Int) ≤ (k : Int) := by omega
            have hq2B : (q2 : Int) ≤ 19200 := by omega
            have c1 := HX.out.2.2.2.2.2 _ _ HS9.out.2.1
            have c0 := HX.out.2.2.2.2.2 _ _ HS9.out.1
            by_cases hlt : k < q2
            · have hlt' : (k : Int) < (q2 : Int) := by omega
              have hkx : k < xs.length := by rw [HQL.out.1]; exact hlt
              have hok := HGQ.out.2.2.1 k hkx
              have hun := HGQ.out.2.2.1.units HUA.out.1 k (by omega)
              obtain ⟨tk, hSF⟩ := step_facts HST.out hok hun
              have hwt := HGQ.out.2.2.1.weight HFin.out k (by omega)
              have hlw := (wS_len HFin.out (lft rs l0 (xs.take k))).1
              have HLS : Hid (lft rs l0 (xs.take (k + 1)) = stepL rs (lft rs l0 (xs.take k)) xs[k]) := lft_succ rs l0 xs hkx
              have HSA : Hid (sumA (xs.take (k + 1)) = sumA (xs.take k) + xs[k].a) := by show _ = _; rw [List.take_add_one, List.getElem?_eq_getElem hkx]; exact sumA_snoc _ _
              obtain ⟨a', c', e', hcap, hst⟩ := HS9.out.2.2.1
              obtain ⟨gs, ha', hsd⟩ := hst.resolve_left (fun e => by rw [e] at hkx; simp at hkx)
              injection e' with e1 e2 e3
              rw [ha'] at e1
              subst e1
              clear e2 e3 ha' hst
              obtain ⟨y0, y1, y2, y3, y4, y5⟩ := hsd k hkx
              have y0 := HX.out.2.2.2.2.2 _ _ y0
              have y1 := HX.out.2.2.2.2.2 _ _ y1
              have y2 := HX.out.2.2.2.2.2 _ _ y2
              have y3 := HX.out.2.2.2.2.2 _ _ y3
              have y4 := HX.out.2.2.2.2.2 _ _ y4
              have y5 := HX.out.2.2.2.2.2 _ _ y5
              have hIl := HX.out.1
              obtain ⟨l, hl⟩ : ∃ l, lft rs l0 (xs.take k) = l := ⟨_, rfl⟩
              rw [hl] at hSF hun hwt hlw HLS hIl
              obtain ⟨x, hx⟩ : ∃ x, xs[k] = x := ⟨_, rfl⟩
              rw [hx] at hSF HLS HSA y0 y1 y2 y3 y4 y5
              have hlne : l ≠ [] := fun e => by have h1 := hSF.tl; have h2 := hSF.t1; rw [e] at h1; simp at h1; omega
              obtain ⟨lg, lo, ln, lc', hlv, hln, hlc, _⟩ := ir_some hIl hlne
              subst hlv
              have hlnB : (ln : Int) ≤ 19200 := by have := HSW.out; omega
              have hlcI : (ln : Int) ≤ (lc' : Int) := by omega
              have HUN : Hid (AllU l) := hun
              have HSF : Hid (SF rs l x tk) := hSF
              have htkI : (tk : Int) ≤ 8 := by have := hSF.t8; omega
              have htk1 : (1 : Int) ≤ (tk : Int) := by have := hSF.t1; omega
              have htkl : (tk : Int) ≤ (ln : Int) := by have := hSF.tl; omega
              have htkc : (tk : Int) ≤ (lc' : Int) := by omega
              have ha0 := hSF.a0
              have ha16 := hSF.a16
              have ht := hSF.t
              rw [ht] at y3
              obtain ⟨xr, hxr⟩ : ∃ xr, x.r = xr := ⟨_, rfl⟩
              obtain ⟨xa, hxa⟩ : ∃ xa, x.a = xa := ⟨_, rfl⟩
              obtain ⟨xd, hxd⟩ : ∃ xd, x.d = xd := ⟨_, rfl⟩
              obtain ⟨xl, hxl⟩ : ∃ xl, x.l = xl := ⟨_, rfl⟩
              obtain ⟨xb, hxb⟩ : ∃ xb, x.b = xb := ⟨_, rfl⟩
              rw [hxr] at y0
              rw [hxd] at y1
              rw [hxl] at y2
              rw [hxa] at y4 ha0 ha16 HSA
              rw [hxb] at y5
              have HXR : Hid (x.r = xr) := hxr
              have HLN : Hid (l.length = ln) := hln
              obtain ⟨Bf, hBf⟩ : ∃ Bf, pS rs (l.take tk) = Bf := ⟨_, rfl⟩
              have HBF : Hid (pS rs (l.take tk) = Bf) := hBf
              have HWr : Hid (N ≤ 300 + 100 * k ∧ WM rs wr m N ∧ Below W6.heap.size W6 wr ∧ Keep W9 wr ∧ IR wr (.slice (some ⟨lg, lo, none⟩) ln lc') l ∧ f = sumA (xs.take k)) := ⟨HX.out.2.2.1, HX.out.2.2.2.1, HX.out.2.2.2.2.1, HX.out.2.2.2.2.2, hIl, HX.out.2.1⟩
              clear HX hsd hl hx hIl hun hwt hlw hok hSF hlne hln hlc hxr hxa hxd hxl hxb hBf ht
              go_upto_block 4 with fail
              obtain ⟨w2, hw2⟩ : ∃ w2, w2 = wr.alloc (.cells #[.int .i64 xr, .int .i64 xd, .int .i64 xl, .int .i64 tk, .int .i64 xa, .int .i64 xb] 49) := ⟨_, rfl⟩
              obtain ⟨xk, hxk⟩ : ∃ xk, wr.heap.size = xk := ⟨_, rfl⟩
              have HW2 : Hid (WM rs w2 m N ∧ Below W6.heap.size W6 w2 ∧ Keep wr w2 ∧ IR w2 (.slice (some ⟨lg, lo, none⟩) ln lc') l ∧ w2.cell? ⟨xk, 0, none⟩ = some (.int .i64 xr) ∧ w2.cell? ⟨xk, 3, none⟩ = some (.int .i64 tk) ∧ w2.cell? ⟨xk, 4, none⟩ = some (.int .i64 xa)) := by
                have hg : Grown wr w2 := by rw [hw2]; exact (Grown.refl _).alloc _
                refine ⟨HWr.out.2.1.kept (fun o ho => (hg.below.block _ (blk_lt ho)).trans ho), HWr.out.2.2.1.trans (hg.below.mono HWr.out.2.2.1.size), hg.keep, HWr.out.2.2.2.2.1.grown hg, ?_, ?_, ?_⟩
                · rw [hw2, ← hxk]; simp
                · rw [hw2, ← hxk]; simp
                · rw [hw2, ← hxk]; simp
              rw [← hw2, hxk]
              clear hw2 hxk y0 y1 y2 y3 y4 y5 c0 c1
              go_cut [20] (fun s20 wx => s20 = .int .i64 Bf ∧ Hid (∃ N', N' ≤ N + 8 ∧ WM rs wx m N' ∧ Below W6.heap.size W6 wx ∧ Keep w2 wx))
              case first =>
                go_wp2
                go_loopw [20, 21] (fun v20 v21 wx => ∃ (j N' : Nat) (t : Int), v21 = .int .i64 j ∧ v20 = .int .i64 t ∧ j ≤ tk ∧ 0 ≤ t ∧ t ≤ 64 * j ∧ Hid (t = pS rs (l.take j) ∧ N' ≤ N + j ∧ WM rs wx m N' ∧ Below W6.heap.size W6 wx ∧ Keep w2 wx)) (fun _ v21 _ => tk - (intOf v21).toNat)
                case atStart => exact ⟨0, N, 0, rfl, rfl, by omega, by omega, by omega, rfl, by omega, HW2.out.1, HW2.out.2.1, Keep.refl _⟩
                case round =>
                  obtain ⟨j, N', t, rfl, rfl, hj, ht0, ht1, HY⟩ := hrel
                  have hj0 : (0 : Int) ≤ (j : Int) := by omega
                  have x3 := HY.out.2.2.2.2 _ _ HW2.out.2.2.2.2.2.1
                  by_cases hltj : j < tk
                  · have hltj' : (j : Int) < (tk : Int) := by omega
                    have hjl : j < l.length := by have := HSF.out.tl; omega
                    have hjln : (j : Int) < (ln : Int) := by omega
                    obtain ⟨_, _, cp, _, _⟩ := HK.out wr HY.out.2.2.2.1
                    obtain ⟨lg2, lo2, hla, cl⟩ := ir_cell (ir_cells HW2.out.2.2.2.1 HY.out.2.2.2.2) (j := j) hjl
                    injection hla with hla
                    injection hla with hla1 hla2
                    subst hla1 hla2
                    have hbk : bAt l j = l[j] := by simp [bAt, hjl]
                    rw [hbk] at cl
                    have hxm := List.getElem_mem hjl
                    have hxI := allU_bound HUN.out hxm
                    have hwg : 1 ≤ wgtP rs l[j] ∧ wgtP rs l[j] ≤ 64 := by rw [wgtP_unit HST.out (HUN.out _ hxm)]; exact HFin.out.wK_in _
                    have HPS : Hid (pS rs (l.take (j + 1)) = pS rs (l.take j) + wgtP rs l[j]) := pS_succ rs hjl
                    have HV : Hid (∀ V, Grown wr V → Calls Tryd.prog 18 #[.agg #[.slice va n vc], .map (some m), .int .i64 l[j]] V fun e w' => e = .returned (.int .i64 (wgtP rs l[j])) ∧ WM rs w' m (N' + 1) ∧ Below W6.heap.size W6 w' ∧ Keep w2 w') := fun V hg => by
                      have hm := HY.out.2.2.1.kept (W' := V) fun o ho => (hg.below.block _ (blk_lt ho)).trans ho
                      refine (HWT.out V N' _ (HY.out.2.2.2.1.trans (hg.below.mono HY.out.2.2.2.1.size)) hm (by have := HY.out.2.1; have := HWr.out.1; omega) hxI).mono ?_
                      rintro e w' ⟨h1, h2, h3, h4⟩
                      exact ⟨h1, h2, h4, HY.out.2.2.2.2.trans (hg.keep.trans (keep_map hm h3))⟩
                    obtain ⟨wg, hwg'⟩ : ∃ wg, wgtP rs l[j] = wg := ⟨_, rfl⟩
                    rw [hwg'] at hwg HPS HV
                    obtain ⟨xx, hxx⟩ : ∃ xx, l[j] = xx := ⟨_, rfl⟩
                    rw [hxx] at cl HV
                    obtain ⟨hw1, hw2⟩ := hwg
                    have HF : Hid (∀ w', WM rs w' m (N' + 1) → Below W6.heap.size W6 w' → Keep w2 w' → t + wg = pS rs (l.take (j + 1)) ∧ N' + 1 ≤ N + (j + 1) ∧ WM rs w' m (N' + 1) ∧ Below W6.heap.size W6 w' ∧ Keep w2 w') := fun w' h1 h2 h3 => ⟨by rw [HPS.out, HY.out.1], by have := HY.out.2.1; omega, h1, h2, h3⟩
                    clear hbk hxm hxI hwg' hxx HY HPS
                    go_wp2
                    go_region_with (go_at_call 18; go_must (refine (HV.out _ (by (repeat (first | exact Grown.refl _ | refine Grown.alloc ?_ _ | refine Grown.drew ?_ | refine Grown.drewN ?_ _ | refine Grown.quiet ?_ _ _)))).mono ?_; rintro e w3 ⟨rfl, h1, h2, h3⟩; have HQ := Hid.mk' (HF.out w3 h1 h2 h3); clear h1 h2 h3))
                    all_goals (go_wp2; exact ⟨⟨j + 1, N' + 1, t + wg, by go_num, by go_num, by omega, by omega, by omega, HQ⟩, by simp [intOf]; omega⟩)
                  · have hge : ¬ (j : Int) < (tk : Int) := by omega
                    have HQ : Hid (t = Bf ∧ ∃ N', N' ≤ N + 8 ∧ WM rs wr m N' ∧ Below W6.heap.size W6 wr ∧ Keep w2 wr) := by
                      have hy := HY.out
                      have : j = tk := by omega
                      rw [this] at hy
                      exact ⟨by rw [hy.1, HBF.out], N', by omega, hy.2.2.1, hy.2.2.2.1, hy.2.2.2.2⟩
                    clear HY
                    go_wp2
                    go_meet
                    exact ⟨by rw [HQ.out.1], HQ.out.2⟩
              case rest =>
                obtain ⟨hs20, hc2⟩ := hcut
                subst hs20
                obtain ⟨N2, hN2, hM2, hB2, hK2⟩ := hc2.out
                have x0 := hK2 _ _ HW2.out.2.2.2.2.1
                have HW3 : Hid (N2 ≤ N + 8 ∧ WM rs wc m N2 ∧ Below W6.heap.size W6 wc ∧ Keep w2 wc) := ⟨hN2, hM2, hB2, hK2⟩
                clear hc2 hN2 hM2 hB2 hK2
                have x0' := fun o => cell_up x0 o
                go_upto_if 119 with fail
                obtain ⟨wD, hwD⟩ : ∃ wD, wD = wc.alloc (.cells #[] 3) := ⟨_, rfl⟩
                obtain ⟨bb, hbb⟩ : ∃ bb, wc.heap.size = bb := ⟨_, rfl⟩
                have HD : Hid (N2 ≤ N + 8 ∧ WM rs wD m N2 ∧ Below W6.heap.size W6 wD ∧ Keep w2 wD) := by
                  have hg : Grown wc wD := by rw [hwD]; exact (Grown.refl _).alloc _
                  exact ⟨HW3.out.1, HW3.out.2.1.kept (fun o ho => (hg.below.block _ (blk_lt ho)).trans ho), HW3.out.2.2.1.trans (hg.below.mono HW3.out.2.2.1.size), HW3.out.2.2.2.trans hg.keep⟩
                rw [← hwD, hbb]
                clear hwD hbb HW3 x0 x0'
                obtain ⟨B, hB⟩ : ∃ B, bkA rs l x = B := ⟨_, rfl⟩
                have HBA : Hid (bkA rs l x = B) := hB
                have hBlt := HSF.out.lt
                have hB16 := HSF.out.b16
                have hBun := HSF.out.un
                rw [hB] at hBlt hB16 hBun
                rw [HBF.out] at hBlt
                have HBU : Hid (AllU B ∧ pS rs B < Bf ∧ B.length ≤ 16) := ⟨hBun, hBlt, hB16⟩
                clear hB hBlt hB16 hBun
                go_cut [22, 23] (fun s22 s23 wx => ∃ t2 : Int, s22 = .int .i64 t2 ∧ t2 < Bf ∧ Hid (IR wx s23 B ∧ ∃ N'', N'' ≤ N + 24 ∧ WM rs wx m N'' ∧ Below W6.heap.size W6 wx ∧ Keep wD wx))
                case first =>
                  rcases HSF.out.kd with h1 | ⟨i, hi, h1, h2, h3⟩
                  · have hxr : xr = -1 := by rw [← HXR.out]; exact h1
                    have hB0 : B = [] := by rw [← HBA.out]; simp [bkA, h1]
                    have HQ : Hid (0 < Bf ∧ IR wD (.slice (some ⟨bb, 0, none⟩) 0 0) B ∧ ∃ N'', N'' ≤ N + 24 ∧ WM rs wD m N'' ∧ Below W6.heap.size W6 wD ∧ Keep wD wD) := by
                      refine ⟨?_, ir_zero hB0, N2, by have := HD.out.1; omega, HD.out.2.1, HD.out.2.2.1, Keep.refl _⟩
                      have := HBU.out.2.1
                      rw [hB0] at this
                      exact this
                    subst hxr
                    clear h1 hB0
                    go_wp2
                    go_meet
                    exact ⟨0, rfl, HQ.out.1, HQ.out.2⟩
                  · have hxr : xr = (i : Int) := by rw [← HXR.out]; exact h1
                    subst hxr
                    have hib : (i : Int) < (n : Int) := by have := HN.out; omega
                    have hi0 : (0 : Int) ≤ (i : Int) := by omega
                    have HB3 : Hid ((outs rs[i] (l.take tk)).drop rs[i].cu.toNat = B) := by show _ = _; rw [← h3]; exact HBA.out
                    obtain ⟨_, hPV, cp, _, _⟩ := HK.out wD HD.out.2.2.1
                    obtain ⟨a', c', e', _, hPr⟩ := hPV
                    obtain ⟨g, o, ha', hPd⟩ := hPr.resolve_left (fun e => by rw [e] at hi; simp at hi)
                    injection e' with e1 e2 e3
                    clear e2 e3
                    rw [ha'] at e1
                    subst e1
                    obtain ⟨av, kv, pv, rv, q0, q1', q2', q3', q4, q5, q6, hRR⟩ := hPd i hi
                    have hIw := ir_cells HW2.out.2.2.2.1 HD.out.2.2.2
                    have HLy : Hid (∀ V, Grown wD V → Calls Tryd.prog 20 #[.agg #[.bool rs[i].bg, av, kv, pv, .bool rs[i].en, rv, .int .i64 rs[i].cu], .slice (some ⟨lg, lo, none⟩) tk lc'] V fun e w' => ∃ v1 v2, e = .returned (.tuple #[v1, v2]) ∧ IsSl v1 ∧ IR w' v2 B ∧ WM rs w' m N2 ∧ Below W6.heap.size W6 w' ∧ Keep wD w') := fun V hg => by
                      refine (rlays_any rs[i] av kv pv rv _ (l.take tk) V (hRR.grown hg) ((ir_take hIw (by omega)).grown hg)).mono ?_
                      rintro e w' ⟨v1, v2, he, hO, hb⟩
                      have hbb := hg.below.trans (hb.mono hg.size)
                      rcases hO with ⟨hf, _⟩ | ⟨_, hf1, hf2⟩
                      · rw [h2] at hf; cases hf
                      · refine ⟨v1, v2, he, hf1.ir.sl, by rw [← HB3.out]; exact hf2.ir, HD.out.2.1.kept (fun o ho => (hbb.block _ (blk_lt ho)).trans ho), HD.out.2.2.1.trans (hbb.mono HD.out.2.2.1.size), keep_below hbb⟩
                    have y0 := HD.out.2.2.2 _ _ HW2.out.2.2.2.2.1
                    have y3 := HD.out.2.2.2 _ _ HW2.out.2.2.2.2.2.1
                    obtain ⟨a1, n1, cc1, rfl⟩ := hRR.a.sl
                    obtain ⟨a2, n2, cc2, rfl⟩ := hRR.k.sl
                    obtain ⟨a3, n3, cc3, rfl⟩ := hRR.p.sl
                    obtain ⟨a5, n5, cc5, rfl⟩ := hRR.r.sl
                    generalize rs[i].bg = zb at q0 HLy
                    generalize rs[i].en = ze at q4 HLy
                    generalize rs[i].cu = zc at q6 HLy
                    clear h1 h2 h3 HB3 hPr hPd ha' hRR hIw
                    go_upto_region 41 with fail
                    go_cut [23] (fun s23 wx => Hid (IsSl s23 ∧ IR wx s23 B ∧ WM rs wx m N2 ∧ Below W6.heap.size W6 wx ∧ Keep wD wx))
                    case first =>
                      go_region_with (go_at_call 20; go_must (refine (HLy.out _ (by (repeat (first | exact Grown.refl _ | refine Grown.alloc ?_ _ | refine Grown.drew ?_ | refine Grown.drewN ?_ _ | refine Grown.quiet ?_ _ _)))).mono ?_; rintro e w4 ⟨v1, v2, rfl, ⟨b1, b2, b3, rfl⟩, h1, h2, h3, h4⟩; obtain ⟨b4, b5, b6, hv2⟩ := h1.sl; subst hv2; have HQ : Hid (IsSl (.slice b4 b5 b6) ∧ IR w4 (.slice b4 b5 b6) B ∧ WM rs w4 m N2 ∧ Below W6.heap.size W6 w4 ∧ Keep wD w4) := ⟨⟨_, _, _, rfl⟩, h1, h2, h3, h4⟩; clear h1 h2 h3 h4))
                      all_goals (go_wp2; go_meet; exact HQ)
                    case rest =>
                      obtain ⟨⟨b4, b5, b6, hv2⟩, h1, h2, h3, h4⟩ := hcut.out
                      subst hv2
                      have hbl := (ir_len h1).1
                      have HE : Hid (IR wc (.slice b4 b5 b6) B ∧ WM rs wc m N2 ∧ Below W6.heap.size W6 wc ∧ Keep wD wc ∧ B.length = b5) := ⟨h1, h2, h3, h4, hbl⟩
                      have hb5 : (b5 : Int) ≤ 16 := by have := HBU.out.2.2; omega
                      clear hcut h1 h2 h3 h4 hbl HLy q0 q1' q2' q3' q4 q5 q6 y0 y3 cp
                      go_wp2
                      go_loopw [22, 24] (fun v22 v24 wx => ∃ (j N' : Nat) (t : Int), v24 = .int .i64 j ∧ v22 = .int .i64 t ∧ j ≤ b5 ∧ 0 ≤ t ∧ t ≤ 64 * j ∧ Hid (t = pS rs (B.take j) ∧ N' ≤ N + 8 + j ∧ WM rs wx m N' ∧ Below W6.heap.size W6 wx ∧ Keep wc wx)) (fun _ v24 _ => b5 - (intOf v24).toNat)
                      case atStart => exact ⟨0, N2, 0, rfl, rfl, by omega, by omega, by omega, rfl, by have := HD.out.1; omega, HE.out.2.1, HE.out.2.2.1, Keep.refl _⟩
                      case round =>
                        obtain ⟨j, N', t, rfl, rfl, hj, ht0, ht1, HY⟩ := hrel
                        have hj0 : (0 : Int) ≤ (j : Int) := by omega
                        by_cases hltj : j < b5
                        · have hltj' : (j : Int) < (b5 : Int) := by omega
                          have hjl : j < B.length := by have := HE.out.2.2.2.2; omega
                          obtain ⟨_, _, cp, _, _⟩ := HK.out wr HY.out.2.2.2.1
                          obtain ⟨lg2, lo2, hla, cl⟩ := ir_cell (ir_cells HE.out.1 HY.out.2.2.2.2) (j := j) hjl
                          subst hla
                          have hbk : bAt B j = B[j] := by simp [bAt, hjl]
                          rw [hbk] at cl
                          have hxm := List.getElem_mem hjl
                          have hxI := allU_bound HBU.out.1 hxm
                          have hwg : 1 ≤ wgtP rs B[j] ∧ wgtP rs B[j] ≤ 64 := by rw [wgtP_unit HST.out (HBU.out.1 _ hxm)]; exact HFin.out.wK_in _
                          have HPS : Hid (pS rs (B.take (j + 1)) = pS rs (B.take j) + wgtP rs B[j]) := pS_succ rs hjl
                          have HV : Hid (∀ V, Grown wr V → Calls Tryd.prog 18 #[.agg #[.slice (some ⟨g, o, none⟩) n vc], .map (some m), .int .i64 B[j]] V fun e w' => e = .returned (.int .i64 (wgtP rs B[j])) ∧ WM rs w' m (N' + 1) ∧ Below W6.heap.size W6 w' ∧ Keep wc w') := fun V hg => by
                            have hm := HY.out.2.2.1.kept (W' := V) fun o ho => (hg.below.block _ (blk_lt ho)).trans ho
                            refine (HWT.out V N' _ (HY.out.2.2.2.1.trans (hg.below.mono HY.out.2.2.2.1.size)) hm (by have := HY.out.2.1; have := HWr.out.1; omega) hxI).mono ?_
                            rintro e w' ⟨h1, h2, h3, h4⟩
                            exact ⟨h1, h2, h4, HY.out.2.2.2.2.trans (hg.keep.trans (keep_map hm h3))⟩
                          obtain ⟨wg, hwg'⟩ : ∃ wg, wgtP rs B[j] = wg := ⟨_, rfl⟩
                          rw [hwg'] at hwg HPS HV
                          obtain ⟨xx, hxx⟩ : ∃ xx, B[j] = xx := ⟨_, rfl⟩
                          rw [hxx] at cl HV
                          obtain ⟨hw1, hw2⟩ := hwg
                          have HF : Hid (∀ w', WM rs w' m (N' + 1) → Below W6.heap.size W6 w' → Keep wc w' → t + wg = pS rs (B.take (j + 1)) ∧ N' + 1 ≤ N + 8 + (j + 1) ∧ WM rs w' m (N' + 1) ∧ Below W6.heap.size W6 w' ∧ Keep wc w') := fun w' h1 h2 h3 => ⟨by rw [HPS.out, HY.out.1], by have := HY.out.2.1; omega, h1, h2, h3⟩
                          clear hbk hxm hxI hwg' hxx HY HPS
                          go_wp2
                          go_region_with (go_at_call 18; go_must (refine (HV.out _ (by (repeat (first | exact Grown.refl _ | refine Grown.alloc ?_ _ | refine Grown.drew ?_ | refine Grown.drewN ?_ _ | refine Grown.quiet ?_ _ _)))).mono ?_; rintro e w3 ⟨rfl, h1, h2, h3⟩; have HQ := Hid.mk' (HF.out w3 h1 h2 h3); clear h1 h2 h3))
                          all_goals (go_wp2; exact ⟨⟨j + 1, N' + 1, t + wg, by go_num, by go_num, by omega, by omega, by omega, HQ⟩, by simp [intOf]; omega⟩)
                        · have hge : ¬ (j : Int) < (b5 : Int) := by omega
                          have HQ : Hid (t < Bf ∧ IR wr (.slice b4 b5 b6) B ∧ ∃ N'', N'' ≤ N + 24 ∧ WM rs wr m N'' ∧ Below W6.heap.size W6 wr ∧ Keep wD wr) := by
                            have hy := HY.out
                            rw [List.take_of_length_le (by have := HE.out.2.2.2.2; omega)] at hy
                            exact ⟨by rw [hy.1]; exact HBU.out.2.1, ir_cells HE.out.1 hy.2.2.2.2, N', by omega, hy.2.2.1, hy.2.2.2.1, HE.out.2.2.2.1.trans hy.2.2.2.2⟩
                          clear HY
                          go_wp2
                          go_meet
                          exact ⟨t, rfl, HQ.out.1, HQ.out.2⟩
                case rest =>
                  obtain ⟨t2, hs22, ht2, HR2⟩ := hcut
                  subst hs22
                  obtain ⟨hIB, N3, hN3, hM3, hB3, hK3⟩ := HR2.out
                  have HG : Hid (IR wc u23 B ∧ N3 ≤ N + 24 ∧ WM rs wc m N3 ∧ Below W6.heap.size W6 wc ∧ Keep wD wc ∧ IR wc (.slice (some ⟨lg, lo, none⟩) ln lc') l ∧ Keep W9 wc) := ⟨hIB, hN3, hM3, hB3, hK3, ir_cells (ir_cells HW2.out.2.2.2.1 HD.out.2.2.2) hK3, HWr.out.2.2.2.1.trans (HW2.out.2.2.1.trans (HD.out.2.2.2.trans hK3))⟩
                  have x4 := hK3 _ _ (HD.out.2.2.2 _ _ HW2.out.2.2.2.2.2.2)
                  have x3 := hK3 _ _ (HD.out.2.2.2 _ _ HW2.out.2.2.2.2.2.1)
                  obtain ⟨p4, p5, p6, hv⟩ := hIB.sl
                  subst hv
                  have hnb : ¬ Bf ≤ t2 := by omega
                  have hnd : decide (Bf ≤ t2) = false := by simp; omega
                  clear HR2 hIB hN3 hM3 hB3 hK3
                  have HFE : Hid (∀ v5 w13, OwnI w13 wc.heap.size v5 (B ++ l.drop tk) → Below wc.heap.size wc w13 → IR w13 v5 (lft rs l0 (xs.take (k + 1))) ∧ f + xa = sumA (xs.take (k + 1)) ∧ N3 ≤ 300 + 100 * (k + 1) ∧ WM rs w13 m N3 ∧ Below W6.heap.size W6 w13 ∧ Keep W9 w13) := fun v5 w13 ho hb => by
                    refine ⟨?_, ?_, ?_, HG.out.2.2.1.kept (fun o ho => (hb.block _ (blk_lt ho)).trans ho), HG.out.2.2.2.1.trans (hb.mono HG.out.2.2.2.1.size), HG.out.2.2.2.2.2.2.trans (keep_below hb)⟩
                    · rw [HLS.out, ← HSF.out.st, HBA.out]; exact ho.ir
                    · rw [HSA.out, HWr.out.2.2.2.2.2]
                    · have := HWr.out.1; have := HG.out.2.1; omega
                  have HN1 : Hid (∀ ob, ob = (.cells #[] 3 : Obj) → OwnI (wc.alloc ob) wc.heap.size (.slice (some ⟨wc.heap.size, 0, none⟩) 0 0) [] ∧ Below wc.heap.size wc (wc.alloc ob)) := fun ob hob => ⟨NewI.own ⟨wc.heap.size, rfl, Nat.le_refl _, by rw [hob]; exact Array.getElem?_push_size⟩ (Nat.zero_le _), ((Grown.refl wc).alloc _).below⟩
                  have hlen4 : B.length + (l.drop tk).length ≤ 1000000000 := by rw [List.length_drop]; have := HBU.out.2.2; have := HLN.out; omega
                  have x4' := fun o => cell_up x4 o
                  by_cases hkl : tk = lc'
                  · have hlnk : ln = tk := by omega
                    have HI1 : Hid (IR wc (.slice (some ⟨lg, lo, none⟩) 0 0) (l.drop tk)) := ir_zero (List.drop_eq_nil_of_le (by have := HLN.out; omega))
                    subst hkl
                    obtain rfl := hlnk.symm
                    go_upto_region 51 with (at_builtin; go_must (refine push_more rfl _ _ rfl wc.heap.size _ [] rfl (HN1.out _ rfl).1 B _ rfl (HG.out.1.below (HN1.out _ rfl).2 (Nat.le_refl _)) (by have := HBU.out.2.2; simp; omega) (by simp) ?_; intro v4 w12 ho4 hb4; have HV4 : Hid (OwnI w12 wc.heap.size v4 B ∧ Below wc.heap.size wc w12) := ⟨ho4, (HN1.out _ rfl).2.trans hb4⟩; obtain ⟨k1, k2, k3, hk4⟩ := ho4.ir.sl; subst hk4; clear ho4 hb4))
                    have x5 := cell_below x3 HV4.out.2 (Nat.le_refl _)
                    go_wp2_with (at_builtin; go_must (refine push_more rfl _ _ rfl wc.heap.size _ B rfl HV4.out.1 (l.drop tk) _ rfl (HI1.out.below HV4.out.2 (Nat.le_refl _)) hlen4 (by have := HV4.out.2.size; omega) ?_; intro v5 w13 ho5 hb5; have HV5 := Hid.mk' (HFE.out v5 w13 ho5 (HV4.out.2.trans hb5)); obtain ⟨k5, k6, k7, hk8⟩ := ho5.ir.sl; subst hk8; clear ho5 hb5))
                    try go_wp2
                    exact ⟨⟨k + 1, N3, f + xa, by go_num, by go_num, by omega, by omega, by omega, HV5⟩, by simp [intOf]; omega⟩
                  · have hkl2 : ((tk : Int) == (lc' : Int)) = false := by simp; omega
                    have HI1 : Hid (IR wc (.slice (some ⟨lg, lo + tk, none⟩) (ln - tk) (lc' - tk)) (l.drop tk)) := ir_drop HG.out.2.2.2.2.2.1 (by omega)
                    go_upto_region 51 with (at_builtin; go_must (refine push_more rfl _ _ rfl wc.heap.size _ [] rfl (HN1.out _ rfl).1 B _ rfl (HG.out.1.below (HN1.out _ rfl).2 (Nat.le_refl _)) (by have := HBU.out.2.2; simp; omega) (by simp) ?_; intro v4 w12 ho4 hb4; have HV4 : Hid (OwnI w12 wc.heap.size v4 B ∧ Below wc.heap.size wc w12) := ⟨ho4, (HN1.out _ rfl).2.trans hb4⟩; obtain ⟨k1, k2, k3, hk4⟩ := ho4.ir.sl; subst hk4; clear ho4 hb4))
                    have x5 := cell_below x3 HV4.out.2 (Nat.le_refl _)
                    go_wp2_with (at_builtin; go_must (refine push_more rfl _ _ rfl wc.heap.size _ B rfl HV4.out.1 (l.drop tk) _ rfl (HI1.out.below HV4.out.2 (Nat.le_refl _)) hlen4 (by have := HV4.out.2.size; omega) ?_; intro v5 w13 ho5 hb5; have HV5 := Hid.mk' (HFE.out v5 w13 ho5 (HV4.out.2.trans hb5)); obtain ⟨k5, k6, k7, hk8⟩ := ho5.ir.sl; subst hk8; clear ho5 hb5))
                    try go_wp2
                    exact ⟨⟨k + 1, N3, f + xa, by go_num, by go_num, by omega, by omega, by omega, HV5⟩, by simp [intOf]; omega⟩
            · have hge : ¬ (k : Int) < (q2 : Int) := by omega
              have HQ : Hid (IR wr u16 [] ∧ f = (u2 : Int) ∧ Below w.heap.size w wr) := by
                have hx := HX.out
                rw [List.take_of_length_le (by rw [HQL.out.1]; omega), HGQ.out.2.2.2.1] at hx
                exact ⟨hx.1, by rw [hx.2.1, ← HGQ.out.2.2.2.2.1, HQL.out.2], (HK.out wr hx.2.2.2.2.1).2.2.2.2⟩
              obtain ⟨A, cA, hA⟩ := ir_nil HQ.out.1
              subst hA
              obtain rfl := HQ.out.2.1
              have HBf := Hid.mk' HQ.out.2.2
              clear HX HQ
              go_wp2
              go_ret
              exact ⟨rfl, HBf.out⟩
    · as_aux_lemma =>
        have hc' : (c2 != 0) = true := by simpa using hc
        go_wp2
        go_ret
        exact ⟨rfl, HB3.out.1⟩
end Go.Proofs
