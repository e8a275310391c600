/-
  Several texts in one (Em En Eo).
-/
import Derived.RangeFuncNested
import Derived.RangeFuncBound
import Derived.RangeFuncCalls
import Derived.RangeFuncLeaves
import Derived.Shelf.Abstract
import Derived.Shelf.RegionOpen
import Derived.WalkKit
import Derived.WalkSpells
import Derived.WalkLawsBesides
import Derived.OwnWalkIn
import Derived.TacticsInMore
import Derived.LoopNIn
import Derived.LoopIn
import Derived.BigQuiet
import Derived.RegionIn
import Derived.Deep.QuietTactic
import Derived.Deep.RegionWith
import Derived.Lib.OthersKept
import Derived.Maps.AppendAt
import Derived.Lib.SmallJoins
import Derived.Shelf.SlSortCmp.QuietGrown
import Derived.Test.YtkijbaofhodplaaDoorMgf
namespace Go.Proofs
open Go.RowKit Go.Shelf

set_option maxRecDepth 100000
attribute [local go_sem] Oper.semAt_some
attribute [local go_sem ↓] Go.wp_at_zero Go.wp_at_succ
theorem box_cell {w wr : World} {rv : Value} (hb : Below (w.heap.size + 1) (w.alloc (.cells #[rv] 24)) wr) : wr.cell? ⟨w.heap.size, 0, none⟩ = some rv := by
  rw [hb.cell (p := ⟨w.heap.size, 0, none⟩) (by simp), cell_of (heap_alloc_new w _)]
  rfl
theorem box_below {w wr : World} {ob : Obj} (hb : Below (w.heap.size + 1) (w.alloc ob) wr) : Below w.heap.size w wr := (((Grown.refl w).alloc ob).below).trans (hb.mono (Nat.le_succ _))
/-- rule by rule -/
structure WL (w : World) (rv : Value) (rs : List Rl) (sp m1 ga m2 : Nat) (bv : Value) (uvs : List Value) (w0 : World) (E : Option Nat × St) (k : Nat) (wr : World) : Prop where
  h : ∃ st ln, settleAll rs (rs.length - k) k st = E ∧ Sc wr w0 sp m1 ga m2 (tws st.ws) (tws st.ws) bv uvs rv rs st ln ∧ OkSt (csI rs) ((bkI rs rs.length).map Pb.us) st
  b : Below (w.heap.size + 1) (w.alloc (.cells #[rv] 24)) w0
theorem WL.below {w : World} {rv : Value} {rs : List Rl} {sp m1 ga m2 : Nat} {bv : Value} {uvs : List Value} {w0 : World} {E : Option Nat × St} {k : Nat} {wr : World} (h : WL w rv rs sp m1 ga m2 bv uvs w0 E k wr) : Below (w.heap.size + 1) (w.alloc (.cells #[rv] 24)) wr := by
  obtain ⟨st, ln, _, hS, _⟩ := h.h
  refine h.b.trans (hS.bel.mono ?_)
  have := h.b.size
  simpa using this
set_option maxHeartbeats 8000000 in
theorem weighed_any (rv : Value) (rs : List Rl) (w : World) (hT : Tab w) (h : PsR w rv rs) : Calls Tryd.prog 34 #[.agg #[rv]] w (WgQ w rv rs) := by
  have HP : Hid (∀ W, Below w.heap.size w W → PsR W rv rs) := fun W hW => h.below hW (Nat.le_refl _)
  have HTT : Hid (∀ W, Below w.heap.size w W → Tab W) := fun W hW => hT.below hW hT.pos
  have HA : Hid (∀ W, Grown w W → Calls Tryd.prog 51 #[.agg #[rv]] W fun e w' => e = .returned (.tuple #[.int .i64 (allE rs).1, .int .i64 (allE rs).2]) ∧ Grown W w') := fun W hW => all_any rv rs W (hT.grown hW) (h.grown hW)
  obtain ⟨ra, rc, rfl, _, hrr⟩ := h
  obtain ⟨n, hn⟩ : ∃ n, rs.length = n := ⟨_, rfl⟩
  have HN : Hid (rs.length = n) := hn
  rw [hn] at HP HA ⊢
  obtain ⟨e1, he1⟩ : ∃ e1, (allE rs).1 = e1 := ⟨_, rfl⟩
  obtain ⟨e2, he2⟩ : ∃ e2, (allE rs).2 = e2 := ⟨_, rfl⟩
  have HE : Hid ((allE rs).1 = e1 ∧ (allE rs).2 = e2) := ⟨he1, he2⟩
  rw [he1, he2] at HA
  clear hT hn he1 he2 hrr
  by_cases hq : e2 = 0
  · subst hq
    have HOK := allE_ok HE.out.2
    have HO : Hid (∀ r ∈ rs, Ok r) := HOK.2
    have hn256 : n ≤ 256 := by rw [← HN.out]; exact HOK.1
    have hnI : (n : Int) ≤ 256 := by omega
    clear HOK
    obtain ⟨C, hC⟩ : ∃ C, fstC rs 0 = C := ⟨_, rfl⟩
    have HC : Hid (fstC rs 0 = C) := hC
    clear hC
    go_enter Tryd.func34, Tryd.ntmps34
    go_wp2_with fail
    refine (HA.out _ ((Grown.refl _).alloc _)).mono ?_
    rintro e w1 ⟨rfl, hG1⟩
    have HB1 : Hid (Below (w.heap.size + 1) (w.alloc (.cells #[.slice ra n rc] 24)) w1) := by have := hG1.below; simpa [Hid] using this
    have d0 : w1.cell? ⟨w.heap.size, 0, none⟩ = some (.slice ra n rc) := box_cell HB1.out
    clear hG1 HA
    go_wp2
    go_loopw [23] (fun vi wr => ∃ k : Nat, vi = .int .i64 k ∧ k ≤ n ∧ Hid (fstC (rs.drop k) k = C) ∧ Hid (Below (w.heap.size + 1) (w.alloc (.cells #[.slice ra n rc] 24)) wr)) (fun vi _ => n - (intOf vi).toNat)
    case atStart => exact ⟨0, rfl, by omega, HC, HB1⟩
    case round =>
      obtain ⟨k, rfl, hk, HF, HB⟩ := hrel
      clear HB1 d0
      have hk0 : (0 : Int) ≤ (k : Int) := by omega
      by_cases hlt : k < n
      · have hlt' : (k : Int) < (n : Int) := by omega
        have hkl : k < rs.length := by rw [HN.out]; exact hlt
        obtain ⟨a', c', e', _, hPr⟩ := HP.out wr (box_below HB.out)
        obtain ⟨g, o, ha', hRA⟩ := hPr.resolve_left (fun e => by rw [e] at hkl; simp at hkl)
        injection e' with q1 q2 q3
        clear q2 q3
        rw [ha'] at q1
        subst q1
        obtain ⟨av, kv, pv, rv', r0, r1, r2, r3, r4, r5, r6, hRR⟩ := hRA k hkl
        have hOk := HO.out _ (List.getElem_mem hkl)
        have HCC : Hid (∀ ob, Calls Tryd.prog 52 #[.agg #[.bool rs[k].bg, av, kv, pv, .bool rs[k].en, rv', .int .i64 rs[k].cu]] (wr.alloc ob) fun e w' => e = .returned (.bool (copB rs[k])) ∧ Below (w.heap.size + 1) (w.alloc (.cells #[.slice (some ⟨g, o, none⟩) n rc] 24)) w') := fun ob => by
          have hg : Grown wr (wr.alloc ob) := (Grown.refl _).alloc ob
          refine (copies_any rs[k] av kv pv rv' (wr.alloc ob) (hRR.grown hg) hOk).mono ?_
          rintro e w' ⟨rfl, hb⟩
          refine ⟨rfl, HB.out.trans ((hg.below.trans (hb.mono hg.size)).mono ?_)⟩
          have := HB.out.size
          simpa using this
        have hF2 := HF.out
        rw [drop_rl hkl] at hF2
        unfold fstC at hF2
        obtain ⟨a1, n1, c1, rfl⟩ := hRR.a.sl
        obtain ⟨a2, n2, c2, rfl⟩ := hRR.k.sl
        obtain ⟨a3, n3, c3, rfl⟩ := hRR.p.sl
        obtain ⟨a5, n5, c5, rfl⟩ := hRR.r.sl
        generalize copB rs[k] = cb at HCC hF2
        generalize rs[k].bg = xb at *
        generalize rs[k].en = xe at *
        generalize rs[k].cu = xc at *
        clear hRR hRA hPr ha' hOk HF HB
        cases cb with
        | true =>
          as_aux_lemma =>
            have HX : Hid (C = some k) := by show C = some k; simpa using hF2.symm
            clear hF2
            go_wp2_with (go_at_call 52; refine (HCC.out _).mono ?_; rintro e w' ⟨rfl, hb⟩)
            refine bodyPost_ret (v := .tuple #[.pointer none, .int .i64 k, .int .i64 80]) (by simp [results, Tryd.f34, go_sem]) rfl ⟨box_below hb, .inl ⟨((k : Int), 80), ?_, rfl⟩⟩
            unfold wgh
            rw [if_neg (by rw [HE.out.2]; simp), HC.out, HX.out]
        | false =>
          as_aux_lemma =>
            have HX : Hid (fstC (rs.drop (k + 1)) (k + 1) = C) := by show _ = C; simpa using hF2
            clear hF2
            go_wp2_with (go_at_call 52; refine (HCC.out _).mono ?_; rintro e w' ⟨rfl, hb⟩)
            exact ⟨⟨k + 1, by go_num, by omega, HX, hb⟩, by simp [intOf]; omega⟩
      · have hge : ¬ (k : Int) < (n : Int) := by omega
        have HX : Hid (C = none) := by
          have := HF.out
          rw [List.drop_eq_nil_of_le (by rw [HN.out]; omega), fstC] at this
          exact this.symm
        have d0 : wr.cell? ⟨w.heap.size, 0, none⟩ = some (.slice ra n rc) := box_cell HB.out
        have HNS : Hid (Calls Tryd.prog 53 #[.slice ra n rc] wr (NsQ wr (.slice ra n rc) rs)) := newScale_any _ rs wr (HP.out wr (box_below HB.out)) HO.out (by rw [HN.out]; exact hn256)
        clear HF
        go_wp2_with fail
        refine HNS.out.mono ?_
        rintro e w2 ⟨sp, m1, ga, m2, bv, uvs, rfl, hS2⟩
        have hwl : tws (stK rs rs.length).ws = rs.length := by rw [stK_all]; exact tws_ones _
        obtain ⟨E, hE⟩ : ∃ E, settleAll rs rs.length 0 (stK rs rs.length) = E := ⟨_, rfl⟩
        have HSE : Hid (settleAll rs rs.length 0 (stK rs rs.length) = E) := hE
        have HW0 : Hid (WL w (.slice ra n rc) rs sp m1 ga m2 bv uvs wr E 0 w2) := by
          refine ⟨⟨stK rs rs.length, fun _ => none, by rw [Nat.sub_zero]; exact hE, hS2.mono (by rw [hwl]; exact Nat.le_refl _) (Nat.zero_le _), okSt_start HO.out (by rw [HN.out]; exact hn256)⟩, HB.out⟩
        have d2 : w2.cell? ⟨w.heap.size, 0, none⟩ = some (.slice ra n rc) := box_cell HW0.out.below
        have HK : Hid (Kok rs) := kok_of HO.out (by rw [HN.out]; exact hn256)
        have HU : Hid (∀ u ∈ (bkI rs rs.length).map Pb.us, u.length ≤ 512) := us_len HO.out
        have HBW : Hid (Below (w.heap.size + 1) (w.alloc (.cells #[.slice ra n rc] 24)) wr) := HB
        obtain ⟨wn, hwn⟩ : ∃ wn, wn = wr := ⟨_, rfl⟩
        rw [← hwn] at HW0 HBW
        clear hE hS2 hwl HNS d0 HB hwn
        go_wp2
        go_loopw [38] (fun vi wx => ∃ k : Nat, vi = .int .i64 k ∧ k ≤ n ∧ Hid (WL w (.slice ra n rc) rs sp m1 ga m2 bv uvs wn E k wx)) (fun vi _ => n - (intOf vi).toNat)
        case atStart => exact ⟨0, rfl, by omega, HW0⟩
        case round =>
          obtain ⟨k, rfl, hk, HW⟩ := hrel
          clear HW0 d2
          have hk0 : (0 : Int) ≤ (k : Int) := by omega
          by_cases hlt : k < n
          · have hlt' : (k : Int) < (n : Int) := by omega
            have hkl : k < rs.length := by rw [HN.out]; exact hlt
            obtain ⟨st, ln, hA, hS, hO⟩ := HW.out.h
            have HCC : Hid (Calls Tryd.prog 54 #[.pointer (some ⟨sp, 0, none⟩), .int .i64 k] wr (SeQ wn sp m1 ga m2 bv uvs (.slice ra n rc) rs (csI rs) ((bkI rs rs.length).map Pb.us) (settleP rs k (64 * rs.length + 1) st).1 (settleP rs k (64 * rs.length + 1) st).2)) :=
              settle_any k (64 * rs.length + 1) hS hO (csI_len rs) hkl HK.out HU.out (by rw [csI_len]; omega)
            rw [show rs.length - k = (rs.length - (k + 1)) + 1 by omega, settleAll] at hA
            obtain ⟨R1, hR1⟩ : ∃ R1, (settleP rs k (64 * rs.length + 1) st).1 = R1 := ⟨_, rfl⟩
            obtain ⟨R2, hR2⟩ : ∃ R2, (settleP rs k (64 * rs.length + 1) st).2 = R2 := ⟨_, rfl⟩
            rw [hR1, hR2] at HCC hA
            clear hS hO hR1 hR2 HW
            cases R1 with
            | true =>
              as_aux_lemma =>
                have HA2 : Hid (settleAll rs (rs.length - (k + 1)) (k + 1) R2 = E) := by show _ = E; simpa using hA
                clear hA
                go_wp2_with (go_at_call 54; refine HCC.out.mono ?_; rintro e w' ⟨ln', rfl, hS', hO'⟩)
                exact ⟨⟨k + 1, by go_num, by omega, ⟨R2, ln', HA2.out, hS', hO'⟩, HBW.out⟩, by simp [intOf]; omega⟩
            | false =>
              as_aux_lemma =>
                have HA2 : Hid (E = (some k, R2)) := by show E = _; simpa using hA.symm
                clear hA
                go_wp2_with (go_at_call 54; refine HCC.out.mono ?_; rintro e w' ⟨ln', rfl, hS', hO'⟩)
                have hb : Below w.heap.size w w' := (box_below HBW.out).trans (hS'.bel.mono (box_below HBW.out).size)
                refine bodyPost_ret (v := .tuple #[.pointer none, .int .i64 k, .int .i64 81]) (by simp [results, Tryd.f34, go_sem]) rfl ⟨hb, .inl ⟨((k : Int), 81), ?_, rfl⟩⟩
                unfold wgh
                rw [if_neg (by rw [HE.out.2]; simp), HC.out, HX.out]
                simp only
                rw [HSE.out, HA2.out]
          · as_aux_lemma =>
              have hge : ¬ (k : Int) < (n : Int) := by omega
              go_wp2
              obtain ⟨st, ln, hA, hS, hO⟩ := HW.out.h
              rw [show rs.length - k = 0 by have := HN.out; omega, settleAll] at hA
              have hb : Below w.heap.size w wr := (box_below HBW.out).trans (hS.bel.mono (box_below HBW.out).size)
              refine bodyPost_ret (v := .tuple #[.pointer (some ⟨sp, 0, none⟩), .int .i64 0, .int .i64 0]) (by simp [results, Tryd.f34, go_sem]) rfl ⟨hb, .inr ⟨st, sp, ?_, rfl, wn, m1, ga, m2, _, _, bv, uvs, ln, (box_below HBW.out).size, hS, hO⟩⟩
              unfold wgh
              rw [if_neg (by rw [HE.out.2]; simp), HC.out, HX.out]
              simp only
              rw [HSE.out, ← hA]
  · have hq' : (e2 != 0) = true := by simpa using hq
    go_enter Tryd.func34, Tryd.ntmps34
    go_wp2_with (go_at_call 51; refine (HA.out _ ((Grown.refl _).alloc _)).mono ?_; rintro e w1 ⟨rfl, hG1⟩)
    refine bodyPost_ret (v := .tuple #[.pointer none, .int .i64 e1, .int .i64 e2]) (by simp [results, Tryd.f34, go_sem]) rfl ⟨(((Grown.refl w).alloc _).trans hG1).below, .inl ⟨(e1, e2), ?_, rfl⟩⟩
    unfold wgh
    rw [if_pos (by rw [HE.out.2]; exact hq), HE.out.1, HE.out.2]
/-- what a unit weighs by the first k rules -/
def wgtK (rs : List Rl) (ws : List Int) (u : Int) : Nat → Int
  | 0 => 1
  | k + 1 => if wgtK rs ws u k < at0 ws k ∧ hasB (fstS rs k) u = true then at0 ws k else wgtK rs ws u k
theorem wgtK_bound {rs : List Rl} {ws : List Int} {u : Int} (h : ∀ i, i < rs.length → 1 ≤ at0 ws i ∧ at0 ws i ≤ 64) : ∀ k, k ≤ rs.length → 1 ≤ wgtK rs ws u k ∧ wgtK rs ws u k ≤ 64
  | 0, _ => by simp [wgtK]
  | k + 1, hk => by
    have h1 := wgtK_bound (u := u) h k (by omega)
    have h2 := h k (by omega)
    unfold wgtK
    split
    · exact h2
    · exact h1
set_option maxHeartbeats 4000000 in
theorem weight_any (rv : Value) (rs : List Rl) (st : St) (W : World) (B sp : Nat) (u : Int) (hT : Tab W) (hS : Sca W B sp rv rs st) (hK : Kok rs) :
    Calls Tryd.prog 36 #[.pointer (some ⟨sp, 0, none⟩), .int .i64 u] W fun e w' => e = .returned (.int .i64 (wgtK rs st.ws u rs.length)) ∧ Grown W w' := by
  obtain ⟨w0, m1, ga, m2, N1, N2, bv, uvs, ln, _, hS, hO⟩ := hS
  have HS : Hid (∀ W', Grown W W' → Sc W' w0 sp m1 ga m2 N1 N2 bv uvs rv rs st ln) := fun W' h => hS.grown h
  have HT : Hid (∀ W', Grown W W' → Tab W') := fun W' h => hT.grown h
  have HWB : Hid (∀ i, i < rs.length → 1 ≤ at0 st.ws i ∧ at0 st.ws i ≤ 64) := fun i hi => hO.wb i (by rw [csI_len]; exact hi)
  have HWL : Hid (st.ws.length = rs.length) := by show _ = _; rw [hO.wl, csI_len]
  have HK : Hid (Kok rs) := hK
  have d0 : W.cell? ⟨sp, 0, none⟩ = some rv := by rw [cell_of hS.blk]; simp
  have d1 : W.cell? ⟨sp, 1, none⟩ = some (.map (some m1)) := by rw [cell_of hS.blk]; simp
  have HR : Hid (PsR w0 rv rs) := hS.rul
  obtain ⟨ra, rc, hrv, _, _⟩ := hS.rul
  obtain ⟨n, hn⟩ : ∃ n, rs.length = n := ⟨_, rfl⟩
  have HN : Hid (rs.length = n) := hn
  rw [hn] at hrv
  subst hrv
  have hnI : (n : Int) ≤ 256 := by have := hK.n; omega
  rw [hn]
  clear hS hO hT hn hK
  go_enter Tryd.func36, Tryd.ntmps36
  go_wp2
  go_loopw [5, 14] (fun vm vi wr => ∃ (k : Nat) (x : Int), vi = .int .i64 k ∧ vm = .int .i64 x ∧ k ≤ n ∧ Hid (x = wgtK rs st.ws u k) ∧ Grown W wr) (fun _ vi _ => n - (intOf vi).toNat)
  case atStart => exact ⟨0, 1, rfl, rfl, by omega, rfl, Grown.refl _⟩
  case round =>
    obtain ⟨k, x, rfl, rfl, hk, HX, hG⟩ := hrel
    have hk0 : (0 : Int) ≤ (k : Int) := by omega
    by_cases hlt : k < n
    · have hlt' : (k : Int) < (n : Int) := by omega
      have hkl : k < rs.length := by rw [HN.out]; exact hlt
      have hSr := HS.out wr hG
      obtain ⟨a', c', e', _, hPr⟩ := HR.out
      obtain ⟨g, o, ha', hRA⟩ := hPr.resolve_left (fun e => by rw [e] at hkl; simp at hkl)
      injection e' with q1 q2 q3
      clear q2 q3
      rw [ha'] at q1
      subst q1
      obtain ⟨av, kv, pv, rv', r0, r1, r2, r3, r4, r5, r6, hRR⟩ := (hRA k hkl).below hSr.bel (Nat.le_refl _)
      have hkk0 := HK.out.k0 _ (List.getElem_mem hkl)
      obtain ⟨ka, kc, hkv, _, hkk⟩ := hRR.k
      obtain ⟨kg, ko, hka, hkd⟩ := hkk.resolve_left (fun e => by rw [e] at hkk0; simp at hkk0)
      subst hka
      obtain ⟨sv, hs0, hsr⟩ := hkd 0 hkk0
      rw [Nat.add_zero] at hs0
      subst hkv
      have hfs : fstS rs k = rs[k].key[0] := by rw [fstS_at hkl]; simp [keyAt, hkk0]
      have HH : Hid (∀ ob, Calls Tryd.prog 58 #[sv, .int .i64 u] (wr.alloc ob) fun e w' => e = .returned (.bool (hasB (fstS rs k) u)) ∧ Grown (wr.alloc ob) w') := fun ob => by
        have hg : Grown wr (wr.alloc ob) := (Grown.refl _).alloc ob
        rw [hfs]
        exact has_any sv _ u (wr.alloc ob) (HT.out _ (hG.trans hg)) (hsr.grown hg)
      obtain ⟨s1, s2, s3, rfl⟩ := hsr.sl
      obtain ⟨a1, n1, c1, rfl⟩ := hRR.a.sl
      obtain ⟨a3, n3, c3, rfl⟩ := hRR.p.sl
      obtain ⟨a5, n5, c5, rfl⟩ := hRR.r.sl
      have hkws : k < st.ws.length := by rw [HWL.out]; exact hkl
      have hlk : ∀ ob, (Instr.lookup 42 (.map (some m1)) (.int .i64 k) false).run Tryd.prog (wr.alloc ob) = .ok (.int .i64 (at0 st.ws k)) (wr.alloc ob) := fun ob => by
        have := (hSr.grown ((Grown.refl _).alloc ob)).wm.look (t := 42) (e := 3) Tryd.underlying42 (zero3 _) (k := (k : Int)) ⟨by omega, by omega⟩
        rw [this, wsF_nat hkws]
        rfl
      have e0 := fun ob => cell_up (hG.cellv d0) ob
      have e1 := fun ob => cell_up (hG.cellv d1) ob
      have hs0' := fun ob => cell_up hs0 ob
      have HW : Hid (wgtK rs st.ws u (k + 1) = if wgtK rs st.ws u k < at0 st.ws k ∧ hasB (fstS rs k) u = true then at0 st.ws k else wgtK rs st.ws u k) := rfl
      rw [← HX.out] at HW
      have hkn : (0 : Int) < (rs[k].key.length : Int) := by omega
      clear hRA hPr ha' hkk hkd hsr hfs hRR hSr hkws hkk0
      generalize rs[k].key.length = kn at *
      generalize rs[k].bg = xb at *
      generalize rs[k].en = xe at *
      generalize rs[k].cu = xc at *
      generalize at0 st.ws k = y at *
      generalize hasB (fstS rs k) u = hb at *
      clear HX
      by_cases hc : x < y
      · cases hb with
        | true =>
          as_aux_lemma =>
            have HF : Hid (y = wgtK rs st.ws u (k + 1)) := by show y = _; rw [HW.out, if_pos ⟨hc, rfl⟩]
            clear HW
            go_wp2_with (go_at_call 58; refine (HH.out _).mono ?_; rintro e w' ⟨rfl, hg⟩)
            exact ⟨⟨k + 1, y, by go_num, rfl, by omega, HF, (hG.alloc _).trans hg⟩, by simp [intOf]; omega⟩
        | false =>
          as_aux_lemma =>
            have HF : Hid (x = wgtK rs st.ws u (k + 1)) := by show x = _; rw [HW.out, if_neg (by simp)]
            clear HW
            go_wp2_with (go_at_call 58; refine (HH.out _).mono ?_; rintro e w' ⟨rfl, hg⟩)
            exact ⟨⟨k + 1, x, by go_num, rfl, by omega, HF, (hG.alloc _).trans hg⟩, by simp [intOf]; omega⟩
      · as_aux_lemma =>
          have HF : Hid (x = wgtK rs st.ws u (k + 1)) := by show x = _; rw [HW.out, if_neg (fun h => hc h.1)]
          clear HW
          go_wp2
          exact ⟨⟨k + 1, x, by go_num, rfl, by omega, HF, hG.alloc _⟩, by simp [intOf]; omega⟩
    · as_aux_lemma =>
        have hge : ¬ (k : Int) < (n : Int) := by omega
        have hkn : k = n := by omega
        subst hkn
        go_wp2
        go_ret
        exact ⟨by rw [← HX.out]; rfl, hG⟩
/-- the number and the error -/
def chkW (rs : List Rl) : Int × Int := (wgh rs).2
/-- what a unit weighs in a pass -/
def wgtP (rs : List Rl) (u : Int) : Int := match (wgh rs).1 with
  | none => 0
  | some st => if wd u = 0 then 0 else wgtK rs st.ws u rs.length
theorem wgh_some {rs : List Rl} {st : St} {c : Int × Int} (h : wgh rs = (some st, c)) : rs.length ≤ 256 ∧ ∀ r ∈ rs, Ok r := by
  unfold wgh at h
  by_cases h0 : (allE rs).2 ≠ 0
  · rw [if_pos h0] at h; injection h with h1; cases h1
  · exact allE_ok (Classical.not_not.1 h0)
theorem wgh_none {rs : List Rl} {c : Int × Int} (h : wgh rs = (none, c)) : c.2 ≠ 0 := by
  unfold wgh at h
  by_cases h0 : (allE rs).2 ≠ 0
  · rw [if_pos h0] at h; injection h with _ h1; rw [← h1]; exact h0
  · rw [if_neg h0] at h
    split at h
    · injection h with _ h1; rw [← h1]; simp
    · split at h
      · injection h with _ h1; rw [← h1]; simp
      · injection h with h1; cases h1
set_option maxHeartbeats 2000000 in
theorem wcheck_any (rv : Value) (rs : List Rl) (w : World) (hT : Tab w) (h : PsR w rv rs) : Calls Tryd.prog 13 #[.agg #[rv]] w fun e w' => e = .returned (.tuple #[.int .i64 (chkW rs).1, .int .i64 (chkW rs).2]) ∧ Below w.heap.size w w' := by
  have HC : Hid (∀ ob, Calls Tryd.prog 34 #[.agg #[rv]] (w.alloc ob) fun e w' => ∃ p, e = .returned (.tuple #[.pointer p, .int .i64 (chkW rs).1, .int .i64 (chkW rs).2]) ∧ Below w.heap.size w w') := fun ob => by
    have hg : Grown w (w.alloc ob) := (Grown.refl _).alloc ob
    refine (weighed_any rv rs (w.alloc ob) (hT.grown hg) (h.grown hg)).mono ?_
    rintro e w' ⟨hb, ⟨c, h1, rfl⟩ | ⟨st, sp, h1, rfl, _⟩⟩
    · exact ⟨none, by unfold chkW; rw [h1], hg.below.trans (hb.mono hg.size)⟩
    · exact ⟨_, by unfold chkW; rw [h1], hg.below.trans (hb.mono hg.size)⟩
  generalize (chkW rs).1 = c1 at HC ⊢
  generalize (chkW rs).2 = c2 at HC ⊢
  obtain ⟨ra, rc, rfl, _, _⟩ := h
  go_enter Tryd.func13, Tryd.ntmps13
  go_wp2_with (go_at_call 34; refine (HC.out _).mono ?_; rintro e w' ⟨p, rfl, hb⟩)
  exact bodyPost_ret (v := .tuple #[.int .i64 c1, .int .i64 c2]) (by simp [results, Tryd.f13, go_sem]) rfl ⟨rfl, hb⟩
set_option maxHeartbeats 2000000 in
theorem wweight_any (rv : Value) (rs : List Rl) (u : Int) (w : World) (hT : Tab w) (h : PsR w rv rs) : Calls Tryd.prog 14 #[.agg #[rv], .int .i64 u] w fun e w' => e = .returned (.int .i64 (wgtP rs u)) ∧ Below w.heap.size w w' := by
  have HC : Hid (∀ ob, Calls Tryd.prog 34 #[.agg #[rv]] (w.alloc ob) (WgQ (w.alloc ob) rv rs)) := fun ob => by
    have hg : Grown w (w.alloc ob) := (Grown.refl _).alloc ob
    exact weighed_any rv rs (w.alloc ob) (hT.grown hg) (h.grown hg)
  have HT : Hid (Tab w) := hT
  have HWD : Hid (∀ W, Calls Tryd.prog 35 #[.int .i64 u] W fun e w' => e = .returned (.int .i64 (wd u)) ∧ w' = W) := fun W => width_any u W
  have HBA : Hid (∀ ob (W : World), Below (w.alloc ob).heap.size (w.alloc ob) W → Below w.heap.size w W) := fun ob W hb => by
    have hg : Grown w (w.alloc ob) := (Grown.refl _).alloc ob
    exact hg.below.trans (hb.mono hg.size)
  obtain ⟨ra, rc, hrv, _, _⟩ := h
  obtain ⟨n, hn⟩ : ∃ n, rs.length = n := ⟨_, rfl⟩
  rw [hn] at hrv
  subst hrv
  obtain ⟨R, hR⟩ : ∃ R, wgtP rs u = R := ⟨_, rfl⟩
  have HR : Hid (wgtP rs u = R) := hR
  rw [hR]
  clear hn hT hR
  obtain ⟨d, hd⟩ : ∃ d, wd u = d := ⟨_, rfl⟩
  have HD : Hid (wd u = d) := hd
  rw [hd] at HWD
  clear hd
  go_enter Tryd.func14, Tryd.ntmps14
  go_wp2_with fail
  refine (HC.out _).mono ?_
  rintro e w' ⟨hb, ⟨c, h1, rfl⟩ | ⟨st, sp, h1, rfl, hS⟩⟩
  · as_aux_lemma =>
      have HB : Hid (Below w.heap.size w w') := HBA.out _ _ hb
      have HF : Hid (R = 0) := by
        have := HR.out
        unfold wgtP at this
        rw [h1] at this
        exact this.symm
      have hc := wgh_none h1
      clear hb h1
      obtain ⟨c1, c2⟩ := c
      have hc' : (c2 != 0) = true := by simpa using hc
      go_wp2
      go_ret
      have hrt := HF.out
      exact ⟨by first | rfl | (rw [hrt]; rfl), HB.out⟩
  · have HB : Hid (Below w.heap.size w w') := HBA.out _ _ hb
    have hT' : Tab w' := HT.out.below HB.out HT.out.pos
    have hok := wgh_some h1
    by_cases hd0 : d = 0
    · as_aux_lemma =>
        have HF : Hid (R = 0) := by
          have := HR.out
          unfold wgtP at this
          rw [h1] at this
          simp only at this
          rw [if_pos (by rw [HD.out]; exact hd0)] at this
          exact this.symm
        subst hd0
        clear hb h1 hS hT' hok
        go_wp2_with (go_at_call 35; refine (HWD.out _).mono ?_; rintro e w'' ⟨rfl, rfl⟩)
        go_ret
        have hrt := HF.out
        exact ⟨by first | rfl | (rw [hrt]; rfl), HB.out⟩
    · as_aux_lemma =>
        have HWT : Hid (Calls Tryd.prog 36 #[.pointer (some ⟨sp, 0, none⟩), .int .i64 u] w' fun e w'' => e = .returned (.int .i64 R) ∧ Grown w' w'') := by
          have := HR.out
          unfold wgtP at this
          rw [h1] at this
          simp only at this
          rw [if_neg (by rw [HD.out]; exact hd0)] at this
          rw [← this]
          exact weight_any _ rs st w' _ sp u hT' hS (kok_of hok.2 hok.1)
        have hd' : (d == 0) = false := by simpa using hd0
        clear hb h1 hS hT' hok
        go_wp2_with (first | (go_at_call 35; refine (HWD.out _).mono ?_; rintro e w'' ⟨rfl, rfl⟩) | (go_at_call 36; refine HWT.out.mono ?_; rintro e w'' ⟨rfl, hg⟩))
        go_ret
        exact ⟨by first | rfl | simp, HB.out.trans (hg.below.mono HB.out.size)⟩
end Go.Proofs
