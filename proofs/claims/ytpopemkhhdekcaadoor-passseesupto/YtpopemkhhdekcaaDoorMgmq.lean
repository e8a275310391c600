/-
  Several texts in one (Nd Ne Th).
-/
import Derived.RangeFuncNested
import Derived.RangeFuncBound
import Derived.RangeFuncCalls
import Derived.RangeFuncLeaves
import Derived.Shelf.Abstract
import Derived.Shelf.RegionOpen
import Derived.WalkKit
import Derived.WalkSpells
import Derived.WalkLawsBesides
import Derived.OwnWalkIn
import Derived.TacticsInMore
import Derived.LoopNIn
import Derived.LoopIn
import Derived.BigQuiet
import Derived.RegionIn
import Derived.Deep.QuietTactic
import Derived.Deep.RegionWith
import Derived.Lib.OthersKept
import Derived.Maps.AppendAt
import Derived.Lib.SmallJoins
import Derived.Shelf.SlSortCmp.QuietGrown
import Derived.Test.YtpopemkhhdekcaaDoorMglq
import Derived.Deep.Upon
import Derived.Test.YtpopemkhhdekcaaDoorMgkq
import Derived.Test.YtpopemkhhdekcaaDoorWfq
namespace Go.Proofs
open Go.RowKit Go.Shelf

set_option maxRecDepth 100000
attribute [local go_sem] Oper.semAt_some
attribute [local go_sem ↓] Go.wp_at_zero Go.wp_at_succ

theorem size_up (W : World) (o : Obj) : (W.alloc o).heap.size = W.heap.size + 1 := Array.size_push _
theorem cell_fst {W : World} {cs : Array Value} {t : TypeId} {j : Nat} {v : Value} (h : cs[j]? = some v) : (W.alloc (.cells cs t)).cell? ⟨W.heap.size, j, none⟩ = some v := (cell_of (heap_alloc_new _ _)).trans h
theorem cell_snd {W : World} {o : Obj} {cs : Array Value} {t : TypeId} {j : Nat} {v : Value} (h : cs[j]? = some v) : ((W.alloc o).alloc (.cells cs t)).cell? ⟨W.heap.size + 1, j, none⟩ = some v := by
  rw [← size_up W o]; exact cell_fst h
theorem cell_trd {W : World} {o o' : Obj} {cs : Array Value} {t : TypeId} {j : Nat} {v : Value} (h : cs[j]? = some v) : (((W.alloc o).alloc o').alloc (.cells cs t)).cell? ⟨W.heap.size + 1 + 1, j, none⟩ = some v := by
  rw [← size_up W o, ← size_up (W.alloc o) o']; exact cell_fst h
set_option maxHeartbeats 4000000 in
theorem fit_any (r : Rl) (av kv pv rv dv lv : Value) (d l : List Int) (w : World) (hT : Tab w) (h : RR w av kv pv rv r) (hO : Ok r) (hd : IR w dv d) (hl : IR w lv l) (hdn : d.length ≤ 9223372036854775807) :
    Calls Tryd.prog 90 #[.agg #[dv, lv], .agg #[.bool r.bg, av, kv, pv, .bool r.en, rv, .int .i64 r.cu]] w fun e w' => e = .returned (.bool (fitB r d l)) ∧ Grown w w' := by
  have hmf : ∀ (fn : Fn) (first cap : Array Value) (w : World), (Instr.makeFunc fn first cap).run Tryd.prog w = .ok (.func fn first cap) w := fun _ _ _ _ => rfl
  have HB : Hid (∀ V, Grown w V → Calls Tryd.prog 100 #[.func (.func 101) #[.agg #[dv, lv]] #[], .func (.func 102) #[.agg #[.bool r.bg, av, kv, pv, .bool r.en, rv, .int .i64 r.cu]] #[], .bool r.en] V fun e w' => e = .returned (.bool (stU l (r.key ++ r.post) r.en)) ∧ Grown V w') := fun V hg =>
    standsB_any _ _ l (r.key ++ r.post) r.en V (hT.grown hg) (behindU hd.sl (hl.grown hg)) (behindA (h.grown hg) hO) (by have := hO.k8; have := hO.p8; rw [List.length_append]; omega)
  have HA : Hid (∀ V, Grown w V → Calls Tryd.prog 100 #[.func (.func 103) #[.agg #[dv, lv]] #[], .func (.func 104) #[.agg #[.bool r.bg, av, kv, pv, .bool r.en, rv, .int .i64 r.cu]] #[], .bool r.bg] V fun e w' => e = .returned (.bool (stU d.reverse r.ante.reverse r.bg)) ∧ Grown V w') := fun V hg =>
    standsA_any _ _ d.reverse r.ante.reverse r.bg V (hT.grown hg) (aheadU hl.sl (hd.grown hg) hdn) (aheadA (h.grown hg) hO) (by have := hO.a8; rw [List.length_reverse]; omega)
  obtain ⟨d1, d2, d3, rfl⟩ := hd.sl
  obtain ⟨l1, l2, l3, rfl⟩ := hl.sl
  obtain ⟨a1, a2, a3, rfl⟩ := h.a.sl
  obtain ⟨k1, k2, k3, rfl⟩ := h.k.sl
  obtain ⟨p1, p2, p3, rfl⟩ := h.p.sl
  obtain ⟨r1, r2, r3, rfl⟩ := h.r.sl
  unfold fitB
  obtain ⟨B1, hB1⟩ : ∃ B1, stU l (r.key ++ r.post) r.en = B1 := ⟨_, rfl⟩
  obtain ⟨B2, hB2⟩ : ∃ B2, stU d.reverse r.ante.reverse r.bg = B2 := ⟨_, rfl⟩
  rw [hB1] at HB ⊢
  rw [hB2] at HA ⊢
  clear hB1 hB2 hd hl h hO hT hdn
  generalize r.bg = xb at HA HB ⊢
  generalize r.en = xe at HA HB ⊢
  generalize r.cu = xc at HA HB ⊢
  cases B1 with
  | false =>
    go_enter Tryd.func90, Tryd.ntmps90
    go_wp2_with (go_at_call 100; refine (HB.out _ ((((Grown.refl _).alloc _).alloc _).alloc _)).mono ?_; rintro e w1 ⟨rfl, hg1⟩)
    go_ret
    exact ⟨rfl, ((((Grown.refl _).alloc _).alloc _).alloc _).trans hg1⟩
  | true =>
    have HG : Hid (∀ o1 o2 o3 W, Grown (((w.alloc o1).alloc o2).alloc o3) W → Grown w W) := fun o1 o2 o3 W hW => ((((Grown.refl _).alloc _).alloc _).alloc _).trans hW
    go_enter Tryd.func90, Tryd.ntmps90
    go_wp2_with fail
    refine (HB.out _ ((((Grown.refl _).alloc _).alloc _).alloc _)).mono ?_
    rintro e w1 ⟨rfl, hg1⟩
    have c0 := hg1.cellv (a := ⟨w.heap.size, 0, none⟩) (v := .slice d1 d2 d3) (cell_up (cell_up (cell_fst rfl) _) _)
    have c1 := hg1.cellv (a := ⟨w.heap.size, 1, none⟩) (v := .slice l1 l2 l3) (cell_up (cell_up (cell_fst rfl) _) _)
    have c2 := hg1.cellv (a := ⟨w.heap.size + 1, 0, none⟩) (v := .bool xb) (cell_up (cell_snd rfl) _)
    have q0 := hg1.cellv (a := ⟨w.heap.size + 1 + 1, 0, none⟩) (v := .bool xb) (cell_trd rfl)
    have q1 := hg1.cellv (a := ⟨w.heap.size + 1 + 1, 1, none⟩) (v := .slice a1 a2 a3) (cell_trd rfl)
    have q2 := hg1.cellv (a := ⟨w.heap.size + 1 + 1, 2, none⟩) (v := .slice k1 k2 k3) (cell_trd rfl)
    have q3 := hg1.cellv (a := ⟨w.heap.size + 1 + 1, 3, none⟩) (v := .slice p1 p2 p3) (cell_trd rfl)
    have q4 := hg1.cellv (a := ⟨w.heap.size + 1 + 1, 4, none⟩) (v := .bool xe) (cell_trd rfl)
    have q5 := hg1.cellv (a := ⟨w.heap.size + 1 + 1, 5, none⟩) (v := .slice r1 r2 r3) (cell_trd rfl)
    have q6 := hg1.cellv (a := ⟨w.heap.size + 1 + 1, 6, none⟩) (v := .int .i64 xc) (cell_trd rfl)
    have HG1 := Hid.mk' (HG.out _ _ _ _ hg1)
    clear hg1 HG
    go_wp2_with (go_at_call 100; refine (HA.out _ HG1.out).mono ?_; rintro e w2 ⟨rfl, hg2⟩)
    go_ret
    exact ⟨rfl, HG1.out.trans hg2⟩

set_option maxHeartbeats 4000000 in
theorem fits_any (r : Rl) (av kv pv rv dv lv : Value) (d l : List Int) (w : World) (hT : Tab w) (h : RR w av kv pv rv r) (hd : IR w dv d) (hl : IR w lv l) (hdn : d.length ≤ 9223372036854775807) :
    Calls Tryd.prog 74 #[.agg #[.bool r.bg, av, kv, pv, .bool r.en, rv, .int .i64 r.cu], dv, lv] w fun e w' => e = .returned (.bool (fitsB r d l)) ∧ Grown w w' := by
  have HC : Hid (∀ V, Grown w V → Calls Tryd.prog 75 #[.agg #[.bool r.bg, av, kv, pv, .bool r.en, rv, .int .i64 r.cu]] V fun e w' => e = .returned (.int .i64 (chk r)) ∧ Grown V w') := fun V hg => check_any r av kv pv rv V (hT.grown hg) (h.grown hg)
  have HF : Hid (∀ V, Grown w V → chk r = 0 → Calls Tryd.prog 90 #[.agg #[dv, lv], .agg #[.bool r.bg, av, kv, pv, .bool r.en, rv, .int .i64 r.cu]] V fun e w' => e = .returned (.bool (fitB r d l)) ∧ Grown V w') := fun V hg h0 => fit_any r av kv pv rv dv lv d l V (hT.grown hg) (h.grown hg) (chk_ok h0) (hd.grown hg) (hl.grown hg) hdn
  obtain ⟨d1, d2, d3, rfl⟩ := hd.sl
  obtain ⟨l1, l2, l3, rfl⟩ := hl.sl
  obtain ⟨a1, a2, a3, rfl⟩ := h.a.sl
  obtain ⟨k1, k2, k3, rfl⟩ := h.k.sl
  obtain ⟨p1, p2, p3, rfl⟩ := h.p.sl
  obtain ⟨r1, r2, r3, rfl⟩ := h.r.sl
  unfold fitsB
  obtain ⟨c, hc⟩ : ∃ c, chk r = c := ⟨_, rfl⟩
  obtain ⟨B, hB⟩ : ∃ B, fitB r d l = B := ⟨_, rfl⟩
  rw [hc] at HC HF ⊢
  rw [hB] at HF ⊢
  clear hc hB hd hl h hT hdn
  generalize r.bg = xb at HC HF ⊢
  generalize r.en = xe at HC HF ⊢
  generalize r.cu = xc at HC HF ⊢
  by_cases h0 : c = 0
  · subst h0
    have HX : Hid (∀ o W, Grown (w.alloc o) W → Grown w W) := fun o W hW => ((Grown.refl _).alloc _).trans hW
    go_enter Tryd.func74, Tryd.ntmps74
    go_wp2_with fail
    refine (HC.out _ ((Grown.refl _).alloc _)).mono ?_
    rintro e w1 ⟨rfl, hg1⟩
    have q0 := hg1.cellv (a := ⟨w.heap.size, 0, none⟩) (v := .bool xb) (cell_fst rfl)
    have q1 := hg1.cellv (a := ⟨w.heap.size, 1, none⟩) (v := .slice a1 a2 a3) (cell_fst rfl)
    have q2 := hg1.cellv (a := ⟨w.heap.size, 2, none⟩) (v := .slice k1 k2 k3) (cell_fst rfl)
    have q3 := hg1.cellv (a := ⟨w.heap.size, 3, none⟩) (v := .slice p1 p2 p3) (cell_fst rfl)
    have q4 := hg1.cellv (a := ⟨w.heap.size, 4, none⟩) (v := .bool xe) (cell_fst rfl)
    have q5 := hg1.cellv (a := ⟨w.heap.size, 5, none⟩) (v := .slice r1 r2 r3) (cell_fst rfl)
    have q6 := hg1.cellv (a := ⟨w.heap.size, 6, none⟩) (v := .int .i64 xc) (cell_fst rfl)
    have HG : Hid (Grown w w1) := HX.out _ _ hg1
    clear hg1 HC HX
    go_wp2_with (go_at_call 90; refine (HF.out _ HG.out (by trivial)).mono ?_; rintro e w2 ⟨rfl, hg2⟩)
    go_ret
    exact ⟨by simp, HG.out.trans hg2⟩
  · have hf : (c == 0) = false := by simpa using h0
    have hd : decide (c = 0) = false := by simpa using h0
    rw [hd, Bool.false_and]
    clear hd HF
    go_enter Tryd.func74, Tryd.ntmps74
    go_wp2_with (go_at_call 75; refine (HC.out _ ((Grown.refl _).alloc _)).mono ?_; rintro e w1 ⟨rfl, hg1⟩)
    go_ret
    exact ⟨rfl, ((Grown.refl _).alloc _).trans hg1⟩

/-- a rule's first set alone -/
def key1 (r : Rl) : Rl := ⟨false, false, 0, [], r.key.take 1, [], []⟩
def begF (rs : List Rl) (u n : Int) : Bool := match rs[n.toNat]? with | some r => fitsB (key1 r) [] [u] | none => false
/-- the rules' numbers whose keys may begin with a unit -/
def begL (rs : List Rl) (u : Int) (d : List Int) : List Int := d.filter (begF rs u)
theorem begL_snoc (rs : List Rl) (u : Int) (d : List Int) {k : Nat} (hk : k < d.length) : begL rs u (d.take (k + 1)) = if begF rs u d[k] = true then begL rs u (d.take k) ++ [d[k]] else begL rs u (d.take k) := by
  unfold begL
  rw [List.take_succ_eq_append_getElem hk, List.filter_append]
  by_cases h : begF rs u d[k] = true
  · rw [if_pos h]; simp [h]
  · rw [if_neg h]; simp [h]
theorem sr_nil (w : World) : SR w (.slice none 0 0) [] := ⟨none, 0, rfl, Nat.le_refl _, .inl rfl⟩
theorem psr_key1 {w : World} {a : Option Addr} {n c : Nat} {rs : List Rl} (h : PsR w (.slice a n c) rs) {j : Nat} (hj : j < rs.length) (hk : 0 < rs[j].key.length) : ∃ g o kg ko kc, a = some ⟨g, o, none⟩ ∧ w.cell? ⟨g, o + j * 7 + 2, none⟩ = some (.slice (some ⟨kg, ko, none⟩) rs[j].key.length kc) ∧ rs[j].key.length ≤ kc ∧ RR w (.slice none 0 0) (.slice (some ⟨kg, ko, none⟩) 1 kc) (.slice none 0 0) (.slice none 0 0) (key1 rs[j]) := by
  obtain ⟨a', c', e, _, h⟩ := h
  injection e with e1 _ _
  subst e1
  obtain ⟨g, o, e, h⟩ := h.resolve_left fun e => by rw [e] at hj; simp at hj
  obtain ⟨av, kv, pv, rv, _, _, q2, _, _, _, _, hR⟩ := h j hj
  obtain ⟨ka, kc, hkv, hkc, h4⟩ := hR.k
  obtain ⟨kg, ko, e4, hd⟩ := h4.resolve_left fun e => by rw [e] at hk; simp at hk
  subst e4
  rw [hkv] at q2
  refine ⟨g, o, kg, ko, kc, e, q2, hkc, sr_nil w, ⟨_, kc, ?_, ?_, .inr ⟨kg, ko, rfl, fun i hi => ?_⟩⟩, sr_nil w, ⟨none, 0, rfl, Nat.le_refl _, .inl rfl⟩⟩
  · show _ = Value.slice _ (rs[j].key.take 1).length kc
    rw [List.length_take, Nat.min_eq_left (by omega)]
  · show (rs[j].key.take 1).length ≤ kc
    rw [List.length_take]; omega
  · have hi' : i < (rs[j].key.take 1).length := hi
    rw [List.length_take] at hi'
    have := hd i (by omega)
    rw [show (key1 rs[j]).key[i] = rs[j].key[i]'(by omega) from List.getElem_take]
    exact this
theorem ir_one (w : World) (u : Int) (b : Nat) (hb : w.heap.size = b) : IR (w.alloc (.cells #[.int .i64 u] 3)) (.slice (some ⟨b, 0, none⟩) 1 1) [u] := by
  refine ⟨_, 1, rfl, Nat.le_refl _, .inr ⟨b, 0, rfl, fun j hj => ?_⟩⟩
  obtain rfl : j = 0 := by simp at hj; omega
  rw [cell_of (new_blk hb)]
  rfl
def BgQ (w : World) (mb N : Nat) (rs : List Rl) (u : Int) (d : List Int) (f : Int → Option Value) (e : Ending) (w' : World) : Prop := ∃ bv, e = .returned bv ∧ OwnI w' w.heap.size bv (begL rs u d) ∧ IMap w' mb (N + 1) (updM f u bv) ∧ Fr w w' fun k => k = mb
set_option maxHeartbeats 8000000 in
theorem beg_new {w : World} {wb mb : Nat} {v lv dv uv : Value} {room N : Nat} {rs : List Rl} {d : List Int} {f : Int → Option Value} (hT : Tab w) (h : WKB w wb v lv (.map (some mb)) dv uv room) (hm : IMap w mb N f) (hN : N < 1000000000) (hP : PsR w v rs) (hk0 : ∀ r ∈ rs, 0 < r.key.length ∧ r.key.length ≤ 1000000) (hd : IR w lv d) (hdn : d.length ≤ 1000000) (hdr : ∀ x ∈ d, 0 ≤ x ∧ x < rs.length) (u : Int) (hu : InI u) (hf : f u = none) :
    Calls Tryd.prog 73 #[.pointer (some ⟨wb, 0, none⟩), .int .i64 u] w (BgQ w mb N rs u d f) := by
  have e2 : w.cell? ⟨wb, 2, none⟩ = some (.map (some mb)) := by rw [cell_of h]; rfl
  have e1 : w.cell? ⟨wb, 1, none⟩ = some lv := by rw [cell_of h]; rfl
  have e0 : w.cell? ⟨wb, 0, none⟩ = some v := by rw [cell_of h]; rfl
  have hlk := hm.look_ok Tryd.underlying80 (z := .slice none 0 0) (by kernel_rfl) hu
  rw [hf] at hlk
  have HW := Hid.mk' h
  have HM := Hid.mk' hm
  have HD := Hid.mk' hd
  have HP := Hid.mk' hP
  have HK := Hid.mk' hk0
  have HR := Hid.mk' hdr
  have HT := Hid.mk' hT
  have HPOS : Hid (0 < w.heap.size) := Nat.lt_of_le_of_lt (Nat.zero_le _) (blk_lt h)
  obtain ⟨la, lc, hlv, hlc, hdc⟩ := hd
  obtain ⟨ra, rc, hv, _, _⟩ := hP
  subst hlv hv
  obtain ⟨ln, hln⟩ : ∃ ln, d.length = ln := ⟨_, rfl⟩
  obtain ⟨rn, hrl⟩ : ∃ rn, rs.length = rn := ⟨_, rfl⟩
  have HLN := Hid.mk' hln
  have HRN := Hid.mk' hrl
  rw [hln] at e1 HW HD hdn hlc
  rw [hrl] at e0 HW HP
  have lnI : (ln : Int) ≤ 1000000 := by omega
  have HDC := Hid.mk' hdc
  clear h hm hk0 hdr hT hf hdc hln hrl
  go_enter Tryd.func73, Tryd.ntmps73
  go_wp2
  go_loopw [5, 8, 25] (fun v5 _ v25 wr => ∃ k : Nat, v25 = .int .i64 k ∧ k ≤ ln ∧ Hid (OwnI wr w.heap.size v5 (begL rs u (d.take k)) ∧ Below w.heap.size w wr)) (fun _ _ v25 _ => ln - (intOf v25).toNat)
  case atStart => exact ⟨0, rfl, by omega, OwnI.nil _ _, Below.refl _ _⟩
  case round =>
    obtain ⟨k, rfl, hk, HO⟩ := hrel
    obtain ⟨x1, x2, x3, hsl⟩ := HO.out.1.ir.sl
    subst hsl
    have hB := HO.out.2
    by_cases hlt : k < ln
    · have hltI : (k : Int) < (ln : Int) := by omega
      have hkd : k < d.length := by have := HLN.out; omega
      obtain ⟨dg, dof, hla, hdd⟩ := HDC.out.resolve_left fun e => by rw [e] at hkd; simp at hkd
      subst hla
      obtain ⟨hx0, hx1⟩ := HR.out d[k] (List.getElem_mem hkd)
      obtain ⟨j, hj⟩ : ∃ j : Nat, d[k] = (j : Int) := ⟨d[k].toNat, by omega⟩
      have cd : wr.cell? ⟨dg, dof + k, none⟩ = some (.int .i64 (j : Int)) := by rw [← hj]; exact cell_below (hdd k hkd) hB (Nat.le_refl _)
      have hjl : j < rs.length := by omega
      have hkk := HK.out rs[j] (List.getElem_mem hjl)
      obtain ⟨rg, ro, kg, ko, kc, hra, ck, hkc, hRR⟩ := psr_key1 (HP.out.below hB (Nat.le_refl _)) hjl hkk.1
      subst hra
      have c0 : wr.cell? ⟨wb, 0, none⟩ = some (.slice (some ⟨rg, ro, none⟩) rn rc) := cell_below e0 hB (Nat.le_refl _)
      have jI : (j : Int) < (rn : Int) := by have := HRN.out; omega
      have j0 : (0 : Int) ≤ (j : Int) := by omega
      have kcI : (1 : Int) ≤ (kc : Int) := by omega
      obtain ⟨b, hb⟩ : ∃ b, begF rs u d[k] = b := ⟨_, rfl⟩
      have hfb : fitsB (key1 rs[j]) [] [u] = b := by
        rw [← hb, hj]
        unfold begF
        rw [Int.toNat_natCast, List.getElem?_eq_getElem hjl]
      have hg : Grown wr (wr.alloc (.cells #[.int .i64 u] 3)) := (Grown.refl _).alloc _
      have hF := fits_any (key1 rs[j]) (.slice none 0 0) (.slice (some ⟨kg, ko, none⟩) 1 kc) (.slice none 0 0) (.slice none 0 0) (.slice none 0 0) (.slice (some ⟨wr.heap.size, 0, none⟩) 1 1) [] [u] _ ((HT.out.below hB HPOS.out).grown hg) (hRR.grown hg) ⟨none, 0, rfl, Nat.le_refl _, .inl rfl⟩ (ir_one wr u _ rfl) (by simp)
      rw [hfb] at hF
      have HF : Hid (Calls Tryd.prog 74 #[.agg #[.bool false, .slice none 0 0, .slice (some ⟨kg, ko, none⟩) 1 kc, .slice none 0 0, .bool false, .slice none 0 0, .int .i64 0], .slice none 0 0, .slice (some ⟨wr.heap.size, 0, none⟩) 1 1] (wr.alloc (.cells #[.int .i64 u] 3)) fun e w' => e = .returned (.bool b) ∧ Grown (wr.alloc (.cells #[.int .i64 u] 3)) w') := hF
      have hsn := begL_snoc rs u d hkd
      rw [hb, hj] at hsn
      have HS := Hid.mk' hsn
      have hdl : (begL rs u (d.take k)).length + 1 ≤ 8796093022208 := by
        have h1 : (begL rs u (d.take k)).length ≤ (d.take k).length := List.length_filter_le _ _
        rw [List.length_take] at h1
        omega
      have HY : Hid (∀ W2, Grown (wr.alloc (.cells #[.int .i64 u] 3)) W2 → Below w.heap.size w W2 ∧ OwnI W2 w.heap.size (.slice x1 x2 x3) (begL rs u (d.take k)) ∧ ∀ ob, OwnI (W2.alloc ob) w.heap.size (.slice x1 x2 x3) (begL rs u (d.take k)) ∧ w.heap.size ≤ (W2.alloc ob).heap.size ∧ Below w.heap.size w (W2.alloc ob)) := fun W2 g2 => by
        have g0 := hg.trans g2
        have b0 : Below w.heap.size w W2 := hB.trans (g0.below.mono hB.size)
        have o0 := HO.out.1.below g0.below (Nat.le_refl _)
        refine ⟨b0, o0, fun ob => ?_⟩
        have g := (Grown.refl W2).alloc ob
        have b1 := b0.trans (g.below.mono b0.size)
        exact ⟨o0.alloc ob, b1.size, b1⟩
      clear hsn hF hfb hb hRR hkk hdd hx0 hx1 hj hB HO hg HDC hlk
      cases b with
      | true =>
        rw [if_pos rfl] at HS
        go_wp2_with (first
          | (go_at_call 74
             refine HF.out.mono ?_
             rintro e w2 ⟨rfl, hg2⟩
             have HY2 := Hid.mk' (HY.out w2 hg2).2.2
             clear hg2)
          | (at_builtin; go_must
              (refine push_I rfl _ _ 72 rfl Tryd.underlying72 w.heap.size _ (begL rs u (d.take k)) rfl (HY2.out _).1 _ _ (j : Int) rfl (by (first | (simp; done) | exact new_cell _ _ _ _ rfl)) hdl (HY2.out _).2.1 ?_
               intro v3 w3 hO3 hB3
               have HZ3 : Hid (OwnI w3 w.heap.size v3 (begL rs u (d.take (k + 1))) ∧ Below w.heap.size w w3) := ⟨by rw [HS.out]; exact hO3, (HY2.out _).2.2.trans hB3⟩
               clear hO3 hB3)))
        exact ⟨⟨k + 1, by go_num, by omega, HZ3⟩, by simp [intOf]; omega⟩
      | false =>
        rw [if_neg (by simp)] at HS
        go_wp2_with (
            (go_at_call 74
             refine HF.out.mono ?_
             rintro e w2 ⟨rfl, hg2⟩
             have HZ3 : Hid (OwnI w2 w.heap.size (.slice x1 x2 x3) (begL rs u (d.take (k + 1))) ∧ Below w.heap.size w w2) := ⟨by rw [HS.out]; exact (HY.out w2 hg2).2.1, (HY.out w2 hg2).1⟩
             clear hg2))
        exact ⟨⟨k + 1, by go_num, by omega, HZ3⟩, by simp [intOf]; omega⟩
    · obtain rfl : k = ln := by omega
      have hge : ¬ (k : Int) < (k : Int) := by omega
      have hO : OwnI wr w.heap.size (.slice x1 x2 x3) (begL rs u d) := by
        have := HO.out.1
        rwa [List.take_of_length_le (by rw [HLN.out]; exact Nat.le_refl _)] at this
      have c2 : wr.cell? ⟨wb, 2, none⟩ = some (.map (some mb)) := cell_below e2 hB (Nat.le_refl _)
      have hmr : IMap wr mb N f := HM.out.kept fun o ho => (hB.block mb (blk_lt ho)).trans ho
      obtain ⟨w4, hst, hm4, htu⟩ := hmr.store (by omega) Tryd.underlying80 hu (.slice x1 x2 x3)
      have hne : ∀ b, (Value.slice x1 x2 x3).ownBlock = some b → b ≠ mb := fun b hb e => by
        obtain ⟨cur, hc⟩ := own_at hO hb
        obtain ⟨es, cc, he⟩ := hmr.isMap
        rw [e, he] at hc
        cases hc
      have hF4 : Fr wr w4 fun k => k = mb := ⟨htu.grown.os, htu.grown.tape, htu.grown.output, htu.grown.size, fun k _ hk => turned_other htu hk⟩
      have HE := Hid.mk' (And.intro (own_fr hO hF4 fun b hb e => hne b hb e) (And.intro hm4 ((fr_below hB (Nat.le_refl _) _).trans hF4 fun _ _ e => e)))
      clear hO hmr hm4 htu hne hF4 hB HO hlk
      go_wp2
      go_ret
      exact ⟨_, rfl, HE.out.1, HE.out.2.1, HE.out.2.2⟩
set_option maxHeartbeats 4000000 in
theorem beg_old {w : World} {wb mb : Nat} {v lv dv uv bv : Value} {room N : Nat} {f : Int → Option Value} (h : WKB w wb v lv (.map (some mb)) dv uv room) (hm : IMap w mb N f) (u : Int) (hu : InI u) (hf : f u = some bv) (hb : IsSl bv) :
    Calls Tryd.prog 73 #[.pointer (some ⟨wb, 0, none⟩), .int .i64 u] w fun e w' => e = .returned bv ∧ w' = w := by
  have e2 : w.cell? ⟨wb, 2, none⟩ = some (.map (some mb)) := by rw [cell_of h]; rfl
  have hlk := hm.look_ok Tryd.underlying80 (z := .slice none 0 0) (by kernel_rfl) hu
  obtain ⟨b1, b2, b3, rfl⟩ := hb
  rw [hf] at hlk
  clear hm h hf
  go_enter Tryd.func73, Tryd.ntmps73
  go_wp2
  go_ret
  exact ⟨rfl, rfl⟩
end Go.Proofs
