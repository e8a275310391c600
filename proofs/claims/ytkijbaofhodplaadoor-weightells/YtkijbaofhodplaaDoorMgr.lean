/-
  Several texts in one (Ld Ka).
-/
import Derived.RangeFuncNested
import Derived.RangeFuncBound
import Derived.RangeFuncCalls
import Derived.RangeFuncLeaves
import Derived.Shelf.Abstract
import Derived.Shelf.RegionOpen
import Derived.WalkKit
import Derived.WalkSpells
import Derived.WalkLawsBesides
import Derived.OwnWalkIn
import Derived.TacticsInMore
import Derived.LoopNIn
import Derived.LoopIn
import Derived.BigQuiet
import Derived.RegionIn
import Derived.Deep.QuietTactic
import Derived.Deep.RegionWith
import Derived.Lib.OthersKept
import Derived.Maps.AppendAt
import Derived.Lib.SmallJoins
import Derived.Shelf.SlSortCmp.QuietGrown
import Derived.Test.YtkijbaofhodplaaDoorLc
import Derived.Test.YtkijbaofhodplaaDoorMgo
import Derived.Test.YtkijbaofhodplaaDoorFg
import Derived.ArgAppend
import Derived.Below
import Derived.Deep.LoopGhost
import Derived.Laws.CopyOwn
import Derived.Laws.MakeOwn
import Derived.Lib.AppendStr
import Derived.Lib.ConvBytes
import Derived.Lib.IndexBytes
import Derived.Lib.ParseIntB
import Derived.RangeFuncBox
import Derived.WalkMore
import Derived.Shelf.Small.Utf8
import Derived.Test.YtkijbaofhodplaaDoorUz
import Derived.Test.YtkijbaofhodplaaDoorUa
import Derived.Test.YtkijbaofhodplaaDoorBq
import Derived.Test.YtkijbaofhodplaaDoorMgi
import Derived.Test.YtkijbaofhodplaaDoorMa
namespace Go.Proofs
open Go.RowKit Go.Shelf

set_option maxRecDepth 100000
attribute [local go_sem] Oper.semAt_some
attribute [local go_sem ↓] Go.wp_at_zero Go.wp_at_succ

theorem fstC_at : ∀ {rs : List Rl} {b k : Nat} (hk : k < rs.length), copB rs[k] = true → (∀ j (h : j < k), copB (rs[j]'(by omega)) = false) → fstC rs b = some (b + k)
  | r :: l, b, 0, hk, h1, h2 => by
    unfold fstC
    rw [if_pos (by simpa using h1)]
    rfl
  | r :: l, b, k + 1, hk, h1, h2 => by
    unfold fstC
    rw [if_neg (by have := h2 0 (by omega); simp at this; simp [this]), fstC_at (b := b + 1) (k := k) (by simpa using hk) (by simpa using h1) (fun j h => by have := h2 (j + 1) (by omega); simpa using this)]
    congr 1
    omega
theorem chkW_bad {rs : List Rl} (h : (allE rs).2 ≠ 0) : chkW rs = allE rs := by
  unfold chkW wgh
  rw [if_pos h]
theorem chkW_cop {rs : List Rl} (hA : (allE rs).2 = 0) {k : Nat} (hk : k < rs.length) (h1 : copB rs[k] = true) (h2 : ∀ j (h : j < k), copB (rs[j]'(by omega)) = false) : chkW rs = ((k : Int), 80) := by
  unfold chkW wgh
  rw [if_neg (by rw [hA]; simp), fstC_at hk h1 h2]
  simp
set_option maxHeartbeats 8000000 in
theorem rchkA (v : Value) (rs : List Rl) (w : World) (h : PsR w v rs) : Calls Tryd.prog 9 #[.agg #[v]] w fun e w' => e = .returned (.tuple #[.int .i64 (chkW rs).1, .int .i64 (chkW rs).2]) ∧ Below w.heap.size w w' := by
  have HA : Hid (∀ V, Grown w V → Calls Tryd.prog 28 #[.agg #[v]] V fun e w' => e = .returned (.tuple #[.int .i64 (allE rs).1, .int .i64 (allE rs).2]) ∧ Grown V w') := fun V hg => rall_any v rs V (h.grown hg)
  by_cases hA : (allE rs).2 = 0
  · have HP : Hid (∀ V, Below w.heap.size w V → PsR V v rs) := fun V hb => h.below hb (Nat.le_refl _)
    have HOK : Hid (rs.length ≤ 256 ∧ ∀ r ∈ rs, Ok r) := allE_ok hA
    have HL : Hid ((∀ r ∈ rs, copB r = false) → ∀ V, Below w.heap.size w V → Calls Tryd.prog 30 #[v] V (LeA V rs)) := fun hc V hb => leastA v rs V (h.below hb (Nat.le_refl _)) hA hc
    have HC0 : Hid (∀ k (hk : k < rs.length), copB rs[k] = true → (∀ j (h : j < k), copB (rs[j]'(by omega)) = false) → chkW rs = ((k : Int), 80)) := fun k hk h1 h2 => chkW_cop hA hk h1 h2
    have HFE : Hid (fea rs = true → chkW rs = (0, 0)) := chkW_fea
    have HFN : Hid ((∀ r ∈ rs, copB r = false) → fea rs = false → ∃ n, n < rs.length ∧ chkW rs = ((n : Int), 81) ∧ (∀ m, m ≤ n → fea (rs.take m) = true) ∧ fea (rs.take (n + 1)) = false) := fun hc hf => wgh_first hA hc hf
    obtain ⟨ra, rc, hv, hcap, hx2⟩ := h
    subst hv
    have HL2 : Hid ((∀ r ∈ rs, copB r = false) → ∀ V i, Below w.heap.size w V → i < rs.length → Calls Tryd.prog 30 #[.slice ra (i + 1) rc] V (LeA V (rs.take (i + 1)))) := fun hc V i hb hi => leastA _ _ V ((HP.out V hb).take (by omega)) (allE_take hA _) fun r hr => hc r (List.mem_of_mem_take hr)
    have HRA : Hid (0 < rs.length → ∃ g o, ra = some ⟨g, o, none⟩) := fun h0 => by
      rcases hx2 with e | ⟨g, o, e, _⟩
      · rw [e] at h0; simp at h0
      · exact ⟨g, o, e⟩
    clear hx2
    obtain ⟨n, hN⟩ : ∃ n, rs.length = n := ⟨_, rfl⟩
    have HN : Hid (rs.length = n) := hN
    have hnI : (n : Int) ≤ 256 := by have := HOK.out.1; omega
    obtain ⟨C1, hC1⟩ : ∃ C1, (chkW rs).1 = C1 := ⟨_, rfl⟩
    obtain ⟨C2, hC2⟩ : ∃ C2, (chkW rs).2 = C2 := ⟨_, rfl⟩
    have HCC : Hid (∀ a b : Int, chkW rs = (a, b) → C1 = a ∧ C2 = b) := fun a b e => by rw [← hC1, ← hC2, e]; exact ⟨rfl, rfl⟩
    rw [hC1, hC2]
    rw [hA] at HA
    rw [hN] at HP HA HL hcap HRA ⊢
    have HCP : Hid (n ≤ rc) := hcap
    clear hN hA hcap hC1 hC2
    go_enter Tryd.func9, Tryd.ntmps9
    go_wp2_with fail
    obtain ⟨wA, hwA⟩ : ∃ wA, wA = w.alloc (.cells #[.slice ra n rc] 24) := ⟨_, rfl⟩
    have HGA : Hid (Grown w wA) := by show Grown _ _; rw [hwA]; exact (Grown.refl _).alloc _
    have cA : wA.cell? ⟨w.heap.size, 0, none⟩ = some (.slice ra n rc) := by rw [hwA]; simp
    try rw [← hwA]
    clear hwA
    refine (HA.out _ HGA.out).mono ?_
    rintro e w1 ⟨rfl, hG1⟩
    have HG1 : Hid (Grown w w1) := HGA.out.trans hG1
    have c1 := hG1.cellv cA
    clear hG1 cA HA HGA
    generalize (allE rs).1 = E1
    go_wp2
    go_loopw [6] (fun vi wr => ∃ k : Nat, vi = .int .i64 k ∧ k ≤ n ∧ Hid (∀ j (h : j < rs.length), j < k → copB rs[j] = false) ∧ Grown w1 wr) (fun vi _ => n - (intOf vi).toNat)
    case atStart => exact ⟨0, rfl, by omega, fun j h h0 => by omega, Grown.refl _⟩
    case round =>
      obtain ⟨k, rfl, hk, HCK, hB⟩ := hrel
      have hpos : (0 : Int) ≤ (k : Int) := by omega
      have c0 := hB.cellv c1
      by_cases hlt : k < n
      · have hlt' : (k : Int) < (n : Int) := by omega
        have hkl : k < rs.length := by rw [HN.out]; exact hlt
        obtain ⟨a', c', e', _, hP⟩ := HP.out wr ((HG1.out.trans hB).below)
        obtain ⟨g, o, ha', hP2⟩ := hP.resolve_left (fun e => by rw [e] at hkl; simp at hkl)
        injection e' with e1 e2 e3
        clear e2 e3
        rw [ha'] at e1
        subst e1
        obtain ⟨av, kv, pv, rv, q0, q1, q2, q3, q4, q5, q6, hR⟩ := hP2 k hkl
        obtain ⟨B, hBB⟩ : ∃ B, copB rs[k] = B := ⟨_, rfl⟩
        have HC : Hid (∀ W, Grown wr W → Calls Tryd.prog 29 #[.agg #[.bool rs[k].bg, av, kv, pv, .bool rs[k].en, rv, .int .i64 rs[k].cu]] W fun e w' => e = .returned (.bool B) ∧ Grown W w') := fun W hW => by
          have := wrong_any rs[k] av kv pv rv W (hR.grown hW) (HOK.out.2 _ (List.getElem_mem hkl))
          rw [hBB] at this; exact this
        have HT : Hid (B = true → C1 = (k : Int) ∧ C2 = 80) := fun hb => HCC.out _ _ (HC0.out k hkl (hBB.trans hb) fun j hj => HCK.out j (by omega) hj)
        have HF : Hid (B = false → ∀ j (h : j < rs.length), j < k + 1 → copB rs[j] = false) := fun hb j hj hjk => by
          by_cases e : j = k
          · subst e; rw [hBB, hb]
          · exact HCK.out j hj (by omega)
        obtain ⟨a1, a2, a3, rfl⟩ := hR.a.sl
        obtain ⟨b1, b2, b3, rfl⟩ := hR.k.sl
        obtain ⟨p1, p2, p3, rfl⟩ := hR.p.sl
        obtain ⟨r1, r2, r3, rfl⟩ := hR.r.sl
        generalize rs[k].bg = xb at *
        generalize rs[k].en = xe at *
        generalize rs[k].cu = xc at *
        clear hR hP hP2 ha' hBB
        have HGB : Hid (Below w.heap.size w wr) := (HG1.out.trans hB).below
        cases B with
        | false =>
          as_aux_lemma =>
            go_wp2_with (go_at_call 29; refine (HC.out _ (Grown.refl _)).mono ?_; rintro e w' ⟨rfl, hb⟩)
            exact ⟨⟨k + 1, by go_num, by omega, HF.out (by trivial), hB.trans hb⟩, by simp [intOf]; omega⟩
        | true =>
          as_aux_lemma =>
            have HT2 := HT.out rfl
            obtain ⟨h1, h2⟩ := HT2
            subst h1 h2
            go_wp2_with (go_at_call 29; refine (HC.out _ (Grown.refl _)).mono ?_; rintro e w' ⟨rfl, hb⟩)
            go_ret2
            exact ⟨rfl, HGB.out.trans (hb.below.mono HGB.out.size)⟩
      · have hge : ¬ (k : Int) < (n : Int) := by omega
        have HG2 : Hid (Grown w wr) := HG1.out.trans hB
        have HCA : Hid (∀ r ∈ rs, copB r = false) := fun r hr => by
          obtain ⟨j, hj, rfl⟩ := List.getElem_of_mem hr
          exact HCK.out j hj (by have := HN.out; omega)
        clear hB HCK HC0
        go_wp2_with fail
        refine (HL.out HCA.out _ HG2.out.below).mono ?_
        rintro e w2 ⟨lv, wv, ⟨l1, l2, l3, rfl⟩, ⟨l4, l5, l6, rfl⟩, rfl, hB2, _⟩
        have c2 := cell_below c0 hB2 (Nat.le_refl _)
        have HBF : Hid (Below w.heap.size w w2) := HG2.out.below.trans (hB2.mono HG2.out.size)
        have HBG : Hid (∀ V, Grown w2 V → Below w.heap.size w V) := fun V hg => HBF.out.trans (hg.below.mono HBF.out.size)
        clear hB2 c0 HL HG2 HG1 c1
        cases hfe : fea rs with
        | true =>
          obtain ⟨h1, h2⟩ := HCC.out _ _ (HFE.out hfe)
          subst h1 h2
          go_wp2
          by_cases hn0 : n = 0
          · subst hn0
            go_loopw [9] (fun vi wr => vi = .int .i64 0 ∧ Grown w2 wr) (fun _ _ => 0)
            case atStart => exact ⟨rfl, by (repeat (first | exact Grown.refl _ | refine Grown.alloc ?_ _ | refine Grown.drew ?_ | refine Grown.drewN ?_ _ | refine Grown.quiet ?_ _ _))⟩
            case round =>
              obtain ⟨rfl, hg⟩ := hrel
              have c4 := hg.cellv c2
              go_wp2
              go_ret2
              exact ⟨rfl, HBG.out _ hg⟩
          · have hn1 : (0 : Int) < (n : Int) := by omega
            have hn2 : 0 < n := by omega
            go_loopw [9] (fun vi wr => vi = .int .i64 0 ∧ Grown w2 wr) (fun _ _ => 0)
            case atStart => exact ⟨rfl, by (repeat (first | exact Grown.refl _ | refine Grown.alloc ?_ _ | refine Grown.drew ?_ | refine Grown.drewN ?_ _ | refine Grown.quiet ?_ _ _))⟩
            case round =>
              obtain ⟨rfl, hg⟩ := hrel
              have c4 := hg.cellv c2
              go_wp2
              go_ret2
              exact ⟨rfl, HBG.out _ hg⟩
        | false =>
          obtain ⟨n0, hn0, hcw, hyes, hno⟩ := HFN.out HCA.out hfe
          obtain ⟨h1, h2⟩ := HCC.out _ _ hcw
          subst h1 h2
          have hn0n : n0 < n := by rw [HN.out] at hn0; exact hn0
          have HY : Hid (∀ m, m ≤ n0 → fea (rs.take m) = true) := hyes
          have HNO : Hid (fea (rs.take (n0 + 1)) = false) := hno
          obtain ⟨rg1, ro1, hra⟩ := HRA.out (by omega)
          subst hra
          clear hyes hno hcw hn0 hfe
          go_wp2
          obtain ⟨bk, hbk⟩ : ∃ bk, w.heap.size = bk := ⟨_, rfl⟩
          have HBK : Hid (w.heap.size = bk) := hbk
          rw [hbk] at c2 ⊢
          clear hbk
          go_loopw [9] (fun vi wr => ∃ i : Nat, vi = .int .i64 i ∧ i ≤ n0 ∧ Below bk w wr ∧ wr.cell? ⟨bk, 0, none⟩ = some (.slice (some ⟨rg1, ro1, none⟩) n rc)) (fun vi _ => n - (intOf vi).toNat)
          case atStart =>
            refine ⟨0, rfl, by omega, ?_, ?_⟩
            · rw [← HBK.out]; exact HBG.out _ (by (repeat (first | exact Grown.refl _ | refine Grown.alloc ?_ _ | refine Grown.drew ?_ | refine Grown.drewN ?_ _ | refine Grown.quiet ?_ _ _)))
            · exact Grown.cellv (by (repeat (first | exact Grown.refl _ | refine Grown.alloc ?_ _ | refine Grown.drew ?_ | refine Grown.drewN ?_ _ | refine Grown.quiet ?_ _ _))) c2
          case round =>
            obtain ⟨i, rfl, hi, hBi, ci⟩ := hrel
            have hi0 : (0 : Int) ≤ (i : Int) := by omega
            have hin : i < n := by omega
            have hinI : (i : Int) < (n : Int) := by omega
            have hcpI : (i : Int) + 1 ≤ (rc : Int) := by have := HCP.out; omega
            have hl1 : i + 1 ≤ rc := by have := HCP.out; omega
            have hdI : decide ((i : Int) < (n : Int)) = true := by simpa using hinI
            have hdN : decide (i < n) = true := by simpa using hin
            have HBI : Hid (∀ V, Grown wr V → Below bk w V) := fun V hg => hBi.trans (hg.below.mono (by have := hBi.size; have := HBK.out; omega))
            obtain ⟨B, hBB⟩ : ∃ B, fea (rs.take (i + 1)) = B := ⟨_, rfl⟩
            have HCL : Hid (∀ V, Grown wr V → Calls Tryd.prog 30 #[.slice (some ⟨rg1, ro1, none⟩) (i + 1) rc] V fun e w' => ∃ a1 a2 a3 b1 b2 b3, e = .returned (.tuple #[.agg #[.slice a1 a2 a3, .slice b1 b2 b3], .bool B]) ∧ Below V.heap.size V w') := fun V hg => (HL2.out HCA.out V i (by rw [HBK.out]; exact HBI.out V hg) (by rw [HN.out]; exact hin)).mono fun e w' hq => by
              obtain ⟨lv, wv, ⟨a1, a2, a3, rfl⟩, ⟨b1, b2, b3, rfl⟩, rfl, h2, _⟩ := hq
              exact ⟨a1, a2, a3, b1, b2, b3, by rw [hBB], h2⟩
            have HB1 : Hid (B = false → i = n0) := fun hb => by
              by_cases e : i = n0
              · exact e
              · have := HY.out (i + 1) (by omega); rw [hBB, hb] at this; cases this
            have HB2 : Hid (B = true → i < n0) := fun hb => by
              by_cases e : i = n0
              · subst e; rw [hBB, hb] at HNO; cases HNO
              · omega
            have HAf : Hid (∀ V W, Grown wr V → Below V.heap.size V W → Below bk w W ∧ W.cell? ⟨bk, 0, none⟩ = some (.slice (some ⟨rg1, ro1, none⟩) n rc)) := fun V W hg hb => ⟨(HBI.out V hg).trans (hb.mono (by have := (HBI.out V hg).size; have := HBK.out; omega)), cell_below (hg.cellv ci) hb (Nat.le_refl _)⟩
            clear hBi hBB
            go_wp2_with fail
            refine (HCL.out _ (by (repeat (first | exact Grown.refl _ | refine Grown.alloc ?_ _ | refine Grown.drew ?_ | refine Grown.drewN ?_ _ | refine Grown.quiet ?_ _ _)))).mono ?_
            rintro e w3 ⟨a1, a2, a3, b1, b2, b3, rfl, hB3⟩
            have H3 := Hid.mk' (HAf.out _ _ (by (repeat (first | exact Grown.refl _ | refine Grown.alloc ?_ _ | refine Grown.drew ?_ | refine Grown.drewN ?_ _ | refine Grown.quiet ?_ _ _))) hB3)
            clear hB3 HAf HCL
            have HGE : Hid (∀ V, Grown w3 V → Below bk w V ∧ V.cell? ⟨bk, 0, none⟩ = some (.slice (some ⟨rg1, ro1, none⟩) n rc)) := fun V hg => ⟨H3.out.1.trans (hg.below.mono (by have := H3.out.1.size; have := HBK.out; omega)), hg.cellv H3.out.2⟩
            cases B with
            | false =>
              have hi := HB1.out (by trivial)
              subst hi
              go_wp2
              go_ret2
              exact ⟨rfl, by rw [HBK.out]; exact (HGE.out _ (by (repeat (first | exact Grown.refl _ | refine Grown.alloc ?_ _ | refine Grown.drew ?_ | refine Grown.drewN ?_ _ | refine Grown.quiet ?_ _ _)))).1⟩
            | true =>
              have hi := HB2.out (by trivial)
              go_wp2
              exact ⟨⟨i + 1, by go_num, by omega, (HGE.out _ (by (repeat (first | exact Grown.refl _ | refine Grown.alloc ?_ _ | refine Grown.drew ?_ | refine Grown.drewN ?_ _ | refine Grown.quiet ?_ _ _)))).1, (HGE.out _ (by (repeat (first | exact Grown.refl _ | refine Grown.alloc ?_ _ | refine Grown.drew ?_ | refine Grown.drewN ?_ _ | refine Grown.quiet ?_ _ _)))).2⟩, by simp [intOf]; omega⟩
  · have HX := chkW_bad hA
    rw [HX]
    have hne : ((allE rs).2 != 0) = true := by simpa using hA
    obtain ⟨v1, v2, v3, rfl⟩ : ∃ a b c, v = .slice a b c := by obtain ⟨a, c, e, _⟩ := h; exact ⟨_, _, _, e⟩
    generalize (allE rs).1 = E1 at *
    generalize (allE rs).2 = E2 at *
    clear HX h
    go_enter Tryd.func9, Tryd.ntmps9
    go_wp2_with (go_at_call 28; refine (HA.out _ ((Grown.refl _).alloc _)).mono ?_; rintro e w1 ⟨rfl, hg1⟩)
    go_ret2
    exact ⟨rfl, (((Grown.refl _).alloc _).trans hg1).below⟩
def put (u : Int) : ByteArray := if 1114240 ≤ u ∧ u ≤ 1114367 then ⟨#[UInt8.ofNat (u - 1114112).toNat]⟩ else if (0 ≤ u ∧ u < 55296) ∨ (57343 < u ∧ u ≤ 1114111) then Utf8.encode u else ByteArray.empty
theorem put_stray {u : Int} (h : 1114240 ≤ u ∧ u ≤ 1114367) : put u = ⟨#[UInt8.ofNat (u - 1114112).toNat]⟩ := by unfold put; rw [if_pos h]
theorem put_rune {u : Int} (h : (0 ≤ u ∧ u < 55296) ∨ (57343 < u ∧ u ≤ 1114111)) : put u = Utf8.encode u := by unfold put; rw [if_neg (by omega), if_pos h]
theorem put_no {u : Int} (h1 : u < 1114240 ∨ 1114367 < u) (h : u < 0 ∨ 1114111 < u ∨ (55296 ≤ u ∧ u ≤ 57343)) : put u = ByteArray.empty := by unfold put; rw [if_neg (by omega), if_neg (by omega)]
theorem info_parts {α : Type} {i : Option α} {β γ δ : Type} {f : α → β} {g : α → γ} {h : α → δ} {b : β} {c : γ} {d : δ} (e : i.map (fun x => (f x, g x, h x)) = some (b, c, d)) : ∃ x, i = some x ∧ f x = b ∧ g x = c ∧ h x = d := by
  cases i with
  | none => cases e
  | some x => simp at e; exact ⟨x, rfl, e.1, e.2.1, e.2.2⟩
theorem dec1 (s : ByteArray) (p : Nat) (h : (s.get! p).toNat < 128) : Utf8.decode s p = ((s.get! p).toNat, 1) := by
  unfold Utf8.decode
  simp only [Nat.add_zero]
  rw [if_pos (by omega)]
theorem dec2 (s : ByteArray) (p c : Nat) (h0 : 128 ≤ c) (h1 : c < 2048) (hs : p + 1 < s.size) (b0 : (s.get! p).toNat = 192 + c / 64) (b1 : (s.get! (p + 1)).toNat = 128 + c % 64) : Utf8.decode s p = (c, 2) := by
  unfold Utf8.decode
  simp only [Nat.add_zero, b0, b1]
  rw [if_neg (by omega), if_pos (by simp [hs]; omega), if_pos (by omega)]
  rw [Prod.mk.injEq]; omega
theorem dec3 (s : ByteArray) (p c : Nat) (h0 : 2048 ≤ c) (h1 : c < 65536) (hv : c < 55296 ∨ 57344 ≤ c) (hs : p + 2 < s.size) (b0 : (s.get! p).toNat = 224 + c / 4096) (b1 : (s.get! (p + 1)).toNat = 128 + c / 64 % 64) (b2 : (s.get! (p + 2)).toNat = 128 + c % 64) : Utf8.decode s p = (c, 3) := by
  have hs1 : p + 1 < s.size := by omega
  unfold Utf8.decode
  simp only [Nat.add_zero, b0, b1, b2]
  rw [if_neg (by omega), if_neg (by simp; omega), if_pos (by simp [hs, hs1]; omega)]
  have e : (224 + c / 4096) % 16 * 4096 + (128 + c / 64 % 64) % 64 * 64 + (128 + c % 64) % 64 = c := by omega
  rw [e, if_pos (by simp [Utf8.valid]; omega)]
theorem dec4 (s : ByteArray) (p c : Nat) (h0 : 65536 ≤ c) (h1 : c < 1114112) (hs : p + 3 < s.size) (b0 : (s.get! p).toNat = 240 + c / 262144) (b1 : (s.get! (p + 1)).toNat = 128 + c / 4096 % 64) (b2 : (s.get! (p + 2)).toNat = 128 + c / 64 % 64) (b3 : (s.get! (p + 3)).toNat = 128 + c % 64) : Utf8.decode s p = (c, 4) := by
  have hs1 : p + 1 < s.size := by omega
  have hs2 : p + 2 < s.size := by omega
  unfold Utf8.decode
  simp only [Nat.add_zero, b0, b1, b2, b3]
  rw [if_neg (by omega), if_neg (by simp; omega), if_neg (by simp; omega), if_pos (by simp [hs, hs1, hs2]; omega)]
  have e : (240 + c / 262144) % 8 * 262144 + (128 + c / 4096 % 64) % 64 * 4096 + (128 + c / 64 % 64) % 64 * 64 + (128 + c % 64) % 64 = c := by omega
  rw [e, if_pos (by simp [Utf8.valid]; omega)]
theorem size_lit (l : List UInt8) : (⟨l.toArray⟩ : ByteArray).size = l.length := by simp [ByteArray.size]
theorem b8 (n : Nat) (h : n < 256) : (UInt8.ofNat n).toNat = n := by rw [UInt8.toNat_ofNat']; omega
theorem enc1 (c : Nat) (h : c < 128) : Utf8.encode (c : Int) = ⟨[UInt8.ofNat c].toArray⟩ := by
  unfold Utf8.encode
  have hv : Utf8.valid (c : Int) = true := by simp [Utf8.valid]; omega
  simp only [hv, if_true, Int.toNat_natCast]
  rw [if_pos (by omega)]
theorem enc2 (c : Nat) (h0 : 128 ≤ c) (h : c < 2048) : Utf8.encode (c : Int) = ⟨[UInt8.ofNat (192 + c / 64), UInt8.ofNat (128 + c % 64)].toArray⟩ := by
  unfold Utf8.encode
  have hv : Utf8.valid (c : Int) = true := by simp [Utf8.valid]; omega
  simp only [hv, if_true, Int.toNat_natCast]
  rw [if_neg (by omega), if_pos (by omega)]
theorem enc3 (c : Nat) (h0 : 2048 ≤ c) (h : c < 65536) (hv : c < 55296 ∨ 57344 ≤ c) : Utf8.encode (c : Int) = ⟨[UInt8.ofNat (224 + c / 4096), UInt8.ofNat (128 + c / 64 % 64), UInt8.ofNat (128 + c % 64)].toArray⟩ := by
  unfold Utf8.encode
  have hv : Utf8.valid (c : Int) = true := by simp [Utf8.valid]; omega
  simp only [hv, if_true, Int.toNat_natCast]
  rw [if_neg (by omega), if_neg (by omega), if_pos (by omega)]
theorem enc4 (c : Nat) (h0 : 65536 ≤ c) (h : c < 1114112) : Utf8.encode (c : Int) = ⟨[UInt8.ofNat (240 + c / 262144), UInt8.ofNat (128 + c / 4096 % 64), UInt8.ofNat (128 + c / 64 % 64), UInt8.ofNat (128 + c % 64)].toArray⟩ := by
  unfold Utf8.encode
  have hv : Utf8.valid (c : Int) = true := by simp [Utf8.valid]; omega
  simp only [hv, if_true, Int.toNat_natCast]
  rw [if_neg (by omega), if_neg (by omega), if_neg (by omega)]
/-- what a rune of several bytes is made of -/
theorem uw_many (s : ByteArray) (p : Nat) (h : 1 < uw s p) : p + uw s p ≤ s.size ∧ (s.get! p).toNat / 64 = 3 ∧ ∀ k, 1 ≤ k → k < uw s p → (s.get! (p + k)).toNat / 64 = 2 := by
  have h0 := (s.get! p).toNat_lt
  unfold uw Utf8.decode at *
  simp only [Nat.add_zero] at *
  split at h
  · simp at h
  · split at h
    · rename_i h1 h2
      simp only [Bool.and_eq_true, decide_eq_true_eq, beq_iff_eq] at h2
      split at h
      · rename_i h3
        rw [if_neg h1, if_pos (by simpa using h2), if_pos h3]
        refine ⟨by simp only; omega, by omega, fun k hk1 hk2 => ?_⟩
        simp only at hk2
        obtain rfl : k = 1 := by omega
        omega
      · simp at h
    · split at h
      · rename_i h1 h2 h3
        split at h
        · rename_i h4
          rw [if_neg h1, if_neg h2, if_pos h3, if_pos h4]
          simp only [Bool.and_eq_true, decide_eq_true_eq, beq_iff_eq] at h3
          refine ⟨by simp only; omega, by omega, fun k hk1 hk2 => ?_⟩
          simp only at hk2
          have : k = 1 ∨ k = 2 := by omega
          rcases this with rfl | rfl <;> omega
        · simp at h
      · split at h
        · rename_i h1 h2 h3 h5
          split at h
          · rename_i h4
            rw [if_neg h1, if_neg h2, if_neg h3, if_pos h5, if_pos h4]
            simp only [Bool.and_eq_true, decide_eq_true_eq, beq_iff_eq] at h5
            refine ⟨by simp only; omega, by omega, fun k hk1 hk2 => ?_⟩
            simp only at hk2
            have : k = 1 ∨ k = 2 ∨ k = 3 := by omega
            rcases this with rfl | rfl | rfl <;> omega
          · simp at h
        · simp at h

/-- a rune of several bytes, by its number -/
def Form (s : ByteArray) (p c n : Nat) : Prop := p + n ≤ s.size ∧ Utf8.decode s p = (c, n) ∧
  ((n = 2 ∧ 128 ≤ c ∧ c < 2048 ∧ (s.get! p).toNat = 192 + c / 64 ∧ (s.get! (p + 1)).toNat = 128 + c % 64) ∨
   (n = 3 ∧ 2048 ≤ c ∧ c < 65536 ∧ (c < 55296 ∨ 57344 ≤ c) ∧ (s.get! p).toNat = 224 + c / 4096 ∧ (s.get! (p + 1)).toNat = 128 + c / 64 % 64 ∧ (s.get! (p + 2)).toNat = 128 + c % 64) ∨
   (n = 4 ∧ 65536 ≤ c ∧ c < 1114112 ∧ (s.get! p).toNat = 240 + c / 262144 ∧ (s.get! (p + 1)).toNat = 128 + c / 4096 % 64 ∧ (s.get! (p + 2)).toNat = 128 + c / 64 % 64 ∧ (s.get! (p + 3)).toNat = 128 + c % 64))
theorem form_of (s : ByteArray) (p : Nat) (h : 1 < uw s p) : ∃ c, Form s p c (uw s p) := by
  have h0 := (s.get! p).toNat_lt
  have h1' := (s.get! (p + 1)).toNat_lt
  have h2' := (s.get! (p + 2)).toNat_lt
  have h3' := (s.get! (p + 3)).toNat_lt
  have hle := (uw_many s p h).1
  obtain ⟨c, n, hd⟩ : ∃ c n, Utf8.decode s p = (c, n) := ⟨_, _, rfl⟩
  have hn : uw s p = n := by unfold uw; rw [hd]
  rw [hn] at h hle ⊢
  refine ⟨c, hle, hd, ?_⟩
  unfold Utf8.decode at hd
  simp only [Nat.add_zero] at hd
  split at hd
  · simp only [Prod.mk.injEq] at hd; omega
  · split at hd
    · rename_i h1 h2
      simp only [Bool.and_eq_true, decide_eq_true_eq, beq_iff_eq] at h2
      split at hd
      · simp only [Prod.mk.injEq] at hd
        left; omega
      · simp only [Prod.mk.injEq] at hd; omega
    · split at hd
      · rename_i h1 h2 h3
        simp only [Bool.and_eq_true, decide_eq_true_eq, beq_iff_eq] at h3
        split at hd
        · rename_i h4
          simp only [Prod.mk.injEq] at hd
          simp only [Utf8.valid, Bool.and_eq_true, Bool.or_eq_true, decide_eq_true_eq] at h4
          right; left; omega
        · simp only [Prod.mk.injEq] at hd; omega
      · split at hd
        · rename_i h1 h2 h3 h5
          simp only [Bool.and_eq_true, decide_eq_true_eq, beq_iff_eq] at h5
          split at hd
          · rename_i h4
            simp only [Prod.mk.injEq] at hd
            simp only [Utf8.valid, Bool.and_eq_true, Bool.or_eq_true, decide_eq_true_eq] at h4
            right; right; omega
          · simp only [Prod.mk.injEq] at hd; omega
        · simp only [Prod.mk.injEq] at hd; omega
/-- a border: nothing that begins ahead reaches beyond -/
def bord (s : ByteArray) (p : Nat) : Prop := ∀ q, q < p → q + uw s q ≤ p
theorem bord_size (s : ByteArray) : bord s s.size := fun q h => by
  by_cases h1 : 1 < uw s q
  · exact (uw_many s q h1).1
  · omega
theorem get_ext (s : ByteArray) (f e r : Nat) (h : f + r < e) (he : e ≤ s.size) : (s.extract f e).get! r = s.get! (f + r) := by
  have hz : (s.extract f e).size = e - f := by simp [ByteArray.size_extract]; omega
  rw [get_bang _ _ (by omega), get_bang _ _ (by omega)]
  simp [ByteArray.getElem_extract]
theorem one_wide (s : ByteArray) (p : Nat) (h : uw s p = 1) : ((s.get! p).toNat < 128 ∧ Utf8.decode s p = ((s.get! p).toNat, 1)) ∨ (128 ≤ (s.get! p).toNat ∧ Utf8.decode s p = (65533, 1)) := by
  by_cases hb : (s.get! p).toNat < 128
  · exact .inl ⟨hb, dec1 s p hb⟩
  · refine .inr ⟨by omega, ?_⟩
    obtain ⟨c, n, hd⟩ : ∃ c n, Utf8.decode s p = (c, n) := ⟨_, _, rfl⟩
    have hn : n = 1 := by rw [← h]; unfold uw; rw [hd]
    subst hn
    have hc : c = 65533 := by
      unfold Utf8.decode at hd
      simp only [Nat.add_zero] at hd
      rw [if_neg hb] at hd
      repeat' split at hd
      all_goals (simp only [Prod.mk.injEq, Utf8.runeError] at hd; omega)
    rw [hd, hc]
theorem prefix_bytes (s : ByteArray) (p : Nat) (h : Lib.hasPrefix (s.data.toList.drop p) fffd = true) : Form s p 65533 3 := by
  unfold Lib.hasPrefix at h
  rw [List.isPrefixOf_iff_prefix] at h
  obtain ⟨t, ht⟩ := h
  have hl : (s.data.toList.drop p).length = 3 + t.length := by rw [← ht]; simp [fffd]; omega
  rw [List.length_drop, ← Lib.size_eq] at hl
  have hg : ∀ k (hk : k < 3), s.get! (p + k) = fffd.getD k 0 := fun k hk => by
    rw [get_bang s _ (by omega)]
    have e : (s.data.toList.drop p)[k]? = fffd[k]? := by rw [← ht, List.getElem?_append_left (by simpa [fffd] using hk)]
    rw [List.getElem?_drop] at e
    have e2 : s.data.toList[p + k]? = some s[p + k] := by
      rw [List.getElem?_eq_getElem (by rw [← Lib.size_eq]; omega)]; rfl
    rw [e2] at e
    simp [List.getD, ← e]
  have g0 := hg 0 (by omega)
  have g1 := hg 1 (by omega)
  have g2 := hg 2 (by omega)
  rw [Nat.add_zero] at g0
  have b0 : (s.get! p).toNat = 224 + 65533 / 4096 := by rw [g0]; decide
  have b1 : (s.get! (p + 1)).toNat = 128 + 65533 / 64 % 64 := by rw [g1]; decide
  have b2 : (s.get! (p + 2)).toNat = 128 + 65533 % 64 := by rw [g2]; decide
  exact ⟨by omega, dec3 s p 65533 (by omega) (by omega) (by omega) (by omega) b0 b1 b2, .inr (.inl ⟨rfl, by omega, by omega, by omega, b0, b1, b2⟩)⟩
theorem bytes_prefix (s : ByteArray) (p : Nat) (h : Form s p 65533 3) : Lib.hasPrefix (s.data.toList.drop p) fffd = true := by
  obtain ⟨hz, _, h⟩ := h
  have hb : (s.get! p).toNat = 239 ∧ (s.get! (p + 1)).toNat = 191 ∧ (s.get! (p + 2)).toNat = 189 := by omega
  unfold Lib.hasPrefix
  rw [List.isPrefixOf_iff_prefix]
  have e : ∀ k (hk : p + k < s.size), s.data.toList[p + k]'(by rw [← Lib.size_eq]; exact hk) = s.get! (p + k) := fun k hk => by rw [get_bang s _ hk]; rfl
  rw [List.drop_eq_getElem_cons (by rw [← Lib.size_eq]; omega), List.drop_eq_getElem_cons (by rw [← Lib.size_eq]; omega), List.drop_eq_getElem_cons (by rw [← Lib.size_eq]; omega)]
  have e0 := e 0 (by omega)
  have e1 := e 1 (by omega)
  have e2 := e 2 (by omega)
  simp only [Nat.add_zero] at e0
  have u0 : s.get! p = 239 := UInt8.toNat_inj.1 hb.1
  have u1 : s.get! (p + 1) = 191 := UInt8.toNat_inj.1 hb.2.1
  have u2 : s.get! (p + 2) = 189 := UInt8.toNat_inj.1 hb.2.2
  rw [e0, u0]
  refine ⟨s.data.toList.drop (p + 1 + 1 + 1), ?_⟩
  simp only [fffd, List.cons_append, List.nil_append, List.cons.injEq, and_true, true_and]
  exact ⟨by rw [← u1]; exact e1.symm, by rw [← u2]; exact e2.symm⟩
theorem stray_iff (s : ByteArray) (p : Nat) : strayAt s p = true ↔ Utf8.decode s p = (65533, 1) := by
  unfold strayAt
  rw [Bool.and_eq_true, beq_iff_eq, Bool.not_eq_true']
  constructor
  · rintro ⟨h1, h2⟩
    by_cases h : 1 < uw s p
    · obtain ⟨c, F⟩ := form_of s p h
      have hd := F.2.1
      rw [hd] at h1
      simp only at h1
      subst h1
      have h3 : uw s p = 3 := by have := F.2.2; omega
      rw [h3] at F
      rw [bytes_prefix s p F] at h2
      cases h2
    · have := uw_pos s p
      have hu : uw s p = 1 := by omega
      rcases one_wide s p hu with ⟨a, b⟩ | ⟨a, b⟩
      · rw [b] at h1; simp only at h1; omega
      · exact b
  · intro h
    refine ⟨by rw [h], ?_⟩
    cases hp : Lib.hasPrefix (s.data.toList.drop p) fffd with
    | false => rfl
    | true =>
      have := (prefix_bytes s p hp).2.1
      rw [h] at this
      simp at this
/-- a unit is as wide as it stands -/
theorem wd_uAt (s : ByteArray) (p : Nat) : wd (uAt s p) = uw s p := by
  by_cases h : 1 < uw s p
  · obtain ⟨c, F⟩ := form_of s p h
    have hns : strayAt s p = false := by
      cases hs : strayAt s p with
      | false => rfl
      | true => have := (stray_iff s p).1 hs; rw [F.2.1] at this; simp at this; omega
    rw [uAt_rune hns, F.2.1]
    have := F.2.2
    unfold wd Lib.runeLen
    repeat' split
    all_goals omega
  · have hpos := uw_pos s p
    have hu : uw s p = 1 := by omega
    rcases one_wide s p hu with ⟨a, b⟩ | ⟨a, b⟩
    · have hns : strayAt s p = false := by
        cases hs : strayAt s p with
        | false => rfl
        | true => have := (stray_iff s p).1 hs; rw [b] at this; simp at this; omega
      rw [uAt_rune hns, b, hu]
      unfold wd Lib.runeLen
      repeat' split
      all_goals omega
    · have hlt := (s.get! p).toNat_lt
      rw [uAt_stray ((stray_iff s p).2 b), hu, wd_stray (by omega)]
      rfl
theorem uw_in (s : ByteArray) (q : Nat) (h : q < s.size) : q + uw s q ≤ s.size := bord_size s q h
end Go.Proofs
