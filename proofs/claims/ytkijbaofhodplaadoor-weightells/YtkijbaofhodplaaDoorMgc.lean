/-
  Several texts in one (Eh Ee).
-/
import Derived.RangeFuncNested
import Derived.RangeFuncBound
import Derived.RangeFuncCalls
import Derived.RangeFuncLeaves
import Derived.Shelf.Abstract
import Derived.Shelf.RegionOpen
import Derived.WalkKit
import Derived.WalkSpells
import Derived.WalkLawsBesides
import Derived.OwnWalkIn
import Derived.TacticsInMore
import Derived.LoopNIn
import Derived.LoopIn
import Derived.BigQuiet
import Derived.RegionIn
import Derived.Deep.QuietTactic
import Derived.Deep.RegionWith
import Derived.Lib.OthersKept
import Derived.Maps.AppendAt
import Derived.Lib.SmallJoins
import Derived.Shelf.SlSortCmp.QuietGrown
import Derived.Test.YtkijbaofhodplaaDoorMgb
namespace Go.Proofs
open Go.RowKit Go.Shelf

set_option maxRecDepth 100000
attribute [local go_sem] Oper.semAt_some
attribute [local go_sem ↓] Go.wp_at_zero Go.wp_at_succ
/-- what a rule puts back -/
def backP (r : Rl) : List Pc := r.res.drop r.cu.toNat
/-- the units that a piece may be -/
def mayB (p : Pc) : List (Int × Int) := if p.k = 3 then p.tl else [(p.u, p.u)]
set_option maxHeartbeats 1000000 in
theorem mayBe_any (p : Pc) (tv : Value) (w : World) (base : Nat) (ht : UR w base tv p.tl) : Calls Tryd.prog 75 #[.agg #[.int .i64 p.k, .int .i64 p.u, .int .i64 p.y, tv]] w fun e w' => ∃ v, e = .returned v ∧ UR w' base v (mayB p) ∧ Grown w w' := by
  have HT : Hid (UR w base tv p.tl) := ht
  obtain ⟨ta, tc, rfl, _, _⟩ := ht
  obtain ⟨tn, htn⟩ : ∃ tn, p.tl.length = tn := ⟨_, rfl⟩
  rw [htn] at HT ⊢
  obtain ⟨pk, hpk⟩ : ∃ pk, p.k = pk := ⟨_, rfl⟩
  obtain ⟨pu, hpu⟩ : ∃ pu, p.u = pu := ⟨_, rfl⟩
  have HM : Hid (mayB p = if pk = 3 then p.tl else [(pu, pu)]) := by show _ = _; unfold mayB; rw [hpk, hpu]
  rw [hpk, hpu]
  clear hpk hpu htn
  by_cases h : pk = 3
  · subst h
    go_enter Tryd.func75, Tryd.ntmps75
    go_wp2
    refine bodyPost_ret (v := .slice ta tn tc) (by simp [results, Tryd.f75, go_sem]) rfl ⟨_, rfl, ?_, (Grown.refl _).alloc _⟩
    rw [HM.out]
    simp only [if_true]
    exact HT.out.below ((Grown.refl _).alloc _).below
  · have h' : (pk == 3) = false := by simpa using h
    go_enter Tryd.func75, Tryd.ntmps75
    go_wp2
    refine bodyPost_ret (v := .slice (some ⟨w.heap.size + 1, 0, none⟩) 1 1) (by simp [results, Tryd.f75, go_sem]) rfl ⟨_, rfl, ?_, ((Grown.refl _).alloc _).alloc _⟩
    rw [HM.out, if_neg h]
    refine ⟨_, 1, rfl, Nat.le_refl _, .inr ⟨w.heap.size + 1, 0, rfl, fun j hj => ?_, .inr ⟨#[.int .i64 pu, .int .i64 pu], (0, 0), ?_⟩⟩⟩
    · have : j = 0 := by simp at hj; omega
      subst this
      simp [rg]
    · have := heap_alloc_new (w.alloc (.cells #[.int .i64 pk, .int .i64 pu, .int .i64 p.y, .slice ta tn tc] 66)) (.cells #[.int .i64 pu, .int .i64 pu] 84)
      simpa using this
set_option maxHeartbeats 1000000 in
theorem putBack_some (bg en : Bool) (a1 a2 a3 : Option Addr) (n1 c1 n2 c2 n3 c3 g o n c : Nat) (cu : Nat) (w : World) (hcu : cu ≤ n) (hn : n ≤ c) : Calls Tryd.prog 74 #[.agg #[.bool bg, .slice a1 n1 c1, .slice a2 n2 c2, .slice a3 n3 c3, .bool en, .slice (some ⟨g, o, none⟩) n c, .int .i64 cu]] w fun e w' => ∃ a', e = .returned (.slice a' (n - cu) (c - cu)) ∧ (n - cu = 0 ∨ a' = some ⟨g, o + cu * 4, none⟩) ∧ Grown w w' := by
  have h0 : (0 : Int) ≤ (cu : Int) := by omega
  have h1 : (cu : Int) ≤ (n : Int) := by omega
  have h2 : (n : Int) ≤ (c : Int) := by omega
  go_enter Tryd.func74, Tryd.ntmps74
  go_wp2
  · exact bodyPost_ret (v := .slice (some ⟨g, o, none⟩) (n - cu) 0) (by simp [results, Tryd.f74, go_sem]) rfl ⟨_, rfl, .inl (by omega), (Grown.refl _).alloc _⟩
  · exact bodyPost_ret (v := .slice (some ⟨g, o + cu * 4, none⟩) (n - cu) (c - cu)) (by simp [results, Tryd.f74, go_sem]) rfl ⟨_, rfl, .inr rfl, (Grown.refl _).alloc _⟩
set_option maxHeartbeats 1000000 in
theorem putBack_nil (bg en : Bool) (a1 a2 a3 : Option Addr) (n1 c1 n2 c2 n3 c3 c : Nat) (a : Option Addr) (w : World) : Calls Tryd.prog 74 #[.agg #[.bool bg, .slice a1 n1 c1, .slice a2 n2 c2, .slice a3 n3 c3, .bool en, .slice a 0 c, .int .i64 0]] w fun e w' => ∃ a' c', e = .returned (.slice a' 0 c') ∧ Grown w w' := by
  go_enter Tryd.func74, Tryd.ntmps74
  go_wp2
  exact bodyPost_ret (v := .slice a 0 c) (by simp [results, Tryd.f74, go_sem]) rfl ⟨_, _, rfl, (Grown.refl _).alloc _⟩
theorem putBack_any (r : Rl) (av kv pv rv : Value) (w w0 : World) (h : RR w0 av kv pv rv r) (hc : 0 ≤ r.cu) (hc2 : r.cu ≤ r.res.length) : Calls Tryd.prog 74 #[.agg #[.bool r.bg, av, kv, pv, .bool r.en, rv, .int .i64 r.cu]] w fun e w' => ∃ v, e = .returned v ∧ PR w0 v (backP r) ∧ Grown w w' := by
  obtain ⟨a1, n1, c1, rfl⟩ := h.a.sl
  obtain ⟨a2, n2, c2, rfl⟩ := h.k.sl
  obtain ⟨a3, n3, c3, rfl⟩ := h.p.sl
  obtain ⟨a, c, rfl, hcap, hr⟩ := h.r
  obtain ⟨cu, hcu⟩ : ∃ cu : Nat, r.cu = cu := ⟨r.cu.toNat, by omega⟩
  have hB : backP r = r.res.drop cu := by unfold backP; rw [hcu]; simp
  rw [hcu] at hc2 ⊢
  rw [hB]
  by_cases hn : r.res = []
  · rw [hn] at hc2 ⊢
    have : cu = 0 := by simp at hc2; omega
    subst this
    refine (putBack_nil _ _ _ _ _ _ _ _ _ _ _ _ _ w).mono ?_
    rintro e w' ⟨a', c', rfl, hg⟩
    exact ⟨_, rfl, ⟨a', c', by simp, by simp, .inl (by simp)⟩, hg⟩
  · obtain ⟨g, o, rfl, hd⟩ := hr.resolve_left hn
    refine (putBack_some _ _ _ _ _ _ _ _ _ _ _ g o _ c cu w (by omega) hcap).mono ?_
    rintro e w' ⟨a', rfl, ha, hg⟩
    refine ⟨_, rfl, ⟨a', c - cu, by simp, by simp; omega, ?_⟩, hg⟩
    by_cases hz : r.res.length - cu = 0
    · exact .inl (List.drop_eq_nil_of_le (by omega))
    · refine .inr ⟨g, o + cu * 4, ha.resolve_left hz, fun j hj => ?_⟩
      have hj' : cu + j < r.res.length := by simp at hj; omega
      have := hd (cu + j) hj'
      rw [List.getElem_drop, show o + cu * 4 + j * 4 = o + (cu + j) * 4 by omega]
      exact this
theorem Rs.ur {w0 W : World} {v : Value} {l : List (Int × Int)} (h : Rs w0 v l) (hb : Below w0.heap.size w0 W) : UR W w0.heap.size v l := by
  obtain ⟨a, cap, h1, h2, h3⟩ := h
  refine ⟨a, cap, h1, h2, ?_⟩
  by_cases hl : l = []
  · exact .inl hl
  · obtain ⟨g, o, h4, h5⟩ := h3.resolve_left hl
    have hg := h5.lt hl
    exact .inr ⟨g, o, h4, h5.below hb hg, .inl hg⟩
/-- the pieces of a rule for the scale -/
def pbs (n : Nat) : List Pc → List Pb
  | [] => []
  | p :: l => if p.k = 2 then pbs n l else ⟨n, mayB p, 1⟩ :: pbs n l
theorem pbs_snoc (n : Nat) (l : List Pc) (p : Pc) : pbs n (l ++ [p]) = pbs n l ++ (if p.k = 2 then [] else [⟨n, mayB p, 1⟩]) := by
  induction l with
  | nil => simp [pbs]
  | cons q l ih =>
    simp only [List.cons_append, pbs, ih]
    split <;> simp
theorem pbs_len (n : Nat) (l : List Pc) : (pbs n l).length ≤ l.length := by
  induction l with
  | nil => simp [pbs]
  | cons q l ih =>
    simp only [pbs]
    split <;> simp <;> omega
/-- the first k rules' pieces -/
def bkI (rs : List Rl) : Nat → List Pb
  | 0 => []
  | k + 1 => bkI rs k ++ pbs k ((rs[k]?.map backP).getD [])
def askI (r : Rl) : Int := 2 - (r.key.length : Int) + ((backP r).length : Int)
theorem bkI_len {rs : List Rl} (h : ∀ r ∈ rs, r.res.length ≤ 16) : ∀ k, (bkI rs k).length ≤ 16 * k
  | 0 => by simp [bkI]
  | k + 1 => by
    have h1 := bkI_len h k
    have h2 := pbs_len k ((rs[k]?.map backP).getD [])
    have h3 : ((rs[k]?.map backP).getD []).length ≤ 16 := by
      cases hk : rs[k]? with
      | none => simp
      | some r =>
        have := h r (List.mem_of_getElem? hk)
        simp [backP]; omega
    simp only [bkI, List.length_append]
    omega
theorem zero3 (w : World) : (zeroValue 3).run Tryd.prog w = .ok (.int .i64 0) w := by kernel_rfl
theorem zero40 (w : World) : (zeroValue 40).run Tryd.prog w = .ok (.slice none 0 0) w := by kernel_rfl
/-- what leans on a rule among the first k pieces -/
def leanK (rs : List Rl) (bk : List Pb) (n k : Nat) : List Nat := (List.range k).filter fun i => touchL (fstS rs n) (usAt bk i)
theorem leanK_succ (rs : List Rl) (bk : List Pb) (n k : Nat) : leanK rs bk n (k + 1) = leanK rs bk n k ++ (if touchL (fstS rs n) (usAt bk k) then [k] else []) := by
  unfold leanK
  rw [List.range_succ, List.filter_append]
  congr 1
  simp [List.filter_cons]
theorem leanK_all (rs : List Rl) (bk : List Pb) (n : Nat) : leanK rs bk n bk.length = leanL rs bk n := rfl
theorem leanK_len (rs : List Rl) (bk : List Pb) (n k : Nat) : (leanK rs bk n k).length ≤ k := by
  unfold leanK
  exact Nat.le_trans (List.length_filter_le _ _) (by simp)
def toI (l : List Nat) : List Int := l.map fun x : Nat => (x : Int)
theorem toI_append (l k : List Nat) : toI (l ++ k) = toI l ++ toI k := by simp [toI]
theorem OwnI.lnr {W : World} {B base ga : Nat} {v : Value} {l : List Nat} (h : OwnI W B v (toI l)) (hb : base ≤ B) (hg : ga < B) : LnR W base ga v l := by
  have hlen : (toI l).length = l.length := by simp [toI]
  rcases h.2 with ⟨rfl, h0⟩ | ⟨g, cap, cur, rfl, h1, h2, h3, _⟩
  · have : l = [] := List.eq_nil_of_length_eq_zero (by omega)
    subst this
    exact ⟨none, 0, rfl, Nat.le_refl _, .inl rfl⟩
  · refine ⟨_, cap, by rw [hlen], by omega, .inr ⟨g, cur, (0, 0), rfl, by omega, by omega, h2, fun j hj => ?_⟩⟩
    have := World.ownsRow.cells h rfl j (.int .i64 (l[j] : Nat)) (by simp [ints, toI, hj])
    rw [add_zero_at] at this
    exact this
/-- rules with a key each -/
structure Kok (rs : List Rl) : Prop where
  k0 : ∀ r ∈ rs, 0 < r.key.length
  k1 : ∀ r ∈ rs, (keyAt r.key 0).length ≤ 512
  n : rs.length ≤ 256
theorem fstS_at {rs : List Rl} {n : Nat} (h : n < rs.length) : fstS rs n = keyAt rs[n].key 0 := by simp [fstS, h]
theorem usAt_at {bk : List Pb} {n : Nat} (h : n < bk.length) : usAt bk n = bk[n].us := by simp [usAt, h]
set_option maxHeartbeats 8000000 in
theorem leaning_any {W w0 : World} {sp m1 ga m2 N1 N2 : Nat} {bv : Value} {uvs : List Value} {rv : Value} {rs : List Rl} {st : St} {ln : Int → Option Value} (n : Nat) (hS : Sc W w0 sp m1 ga m2 N1 N2 bv uvs rv rs st ln) (hn : n < rs.length) (hK : Kok rs) (hu : ∀ b ∈ st.bk, b.us.length ≤ 512) (hbl : st.bk.length ≤ 4096) (hN : N2 < 1000000) :
    Calls Tryd.prog 87 #[.pointer (some ⟨sp, 0, none⟩), .int .i64 n] W fun e w' => ∃ v ln', e = .returned v ∧ LnR w' w0.heap.size ga v (leanL rs st.bk n) ∧ Sc w' w0 sp m1 ga m2 N1 (N2 + 1) bv uvs rv rs st ln' := by
  have hnI : InI (n : Int) := ⟨by omega, by have := hK.n; omega⟩
  have HS : Hid (Sc W w0 sp m1 ga m2 N1 N2 bv uvs rv rs st ln) := hS
  have hL := hS.lnm.look_ok (t := 103) (e := 40) Tryd.underlying103 (zero40 W) hnI
  have d0 : W.cell? ⟨sp, 0, none⟩ = some rv := by rw [cell_of hS.blk]; simp
  have d3 : W.cell? ⟨sp, 3, none⟩ = some bv := by rw [cell_of hS.blk]; simp
  have d4 : W.cell? ⟨sp, 4, none⟩ = some (.map (some m2)) := by rw [cell_of hS.blk]; simp
  have hnI' : (n : Int) ≤ 256 := by have := hK.n; omega
  have hn0 : (0 : Int) ≤ (n : Int) := by omega
  cases hf : ln (n : Int) with
  | some v =>
    rw [hf] at hL
    simp only [Option.getD_some, Option.isSome_some] at hL
    have HV : Hid (LnR W w0.heap.size ga v (leanL rs st.bk n)) := by have := (hS.lnr _ _ hf).2; show LnR _ _ _ _ _; simpa using this
    clear hS hf
    go_enter Tryd.func87, Tryd.ntmps87
    go_wp2
    go_ret
    exact ⟨v, ln, rfl, HV.out, HS.out.mono (Nat.le_refl _) (Nat.le_succ _)⟩
  | none =>
    rw [hf] at hL
    simp only [Option.getD_none, Option.isSome_none] at hL
    have HB : Hid (ga < W.heap.size ∧ w0.heap.size ≤ W.heap.size) := ⟨(Array.getElem?_eq_some_iff.1 hS.asb).1, hS.bel.size⟩
    have HK : Hid (Kok rs) := hK
    have HU : Hid (∀ b ∈ st.bk, b.us.length ≤ 512) := hu
    obtain ⟨q0, ba, bc, hbv, _, hbr⟩ := hS.bkr
    obtain ⟨nb, hnb⟩ : ∃ nb, st.bk.length = nb := ⟨_, rfl⟩
    have HNB : Hid (st.bk.length = nb) := hnb
    have HUL : Hid (uvs.length = nb) := q0.trans hnb
    rw [hnb] at hbv hbl
    have hbl' : (nb : Int) ≤ 4096 := by omega
    subst hbv
    obtain ⟨ra, rc, hrv, _, hrr⟩ := hS.rul
    have HR : Hid (∃ g o, ra = some ⟨g, o, none⟩ ∧ ∀ (j : Nat) (hj : j < rs.length), RAt w0 g (o + j * 7) rs[j]) := hrr.resolve_left (fun e => by rw [e] at hn; simp at hn)
    have HRL : Hid (n < rs.length) := hn
    obtain ⟨nr, hnr⟩ : ∃ nr, rs.length = nr := ⟨_, rfl⟩
    have hnn : (n : Int) < (nr : Int) := by omega
    rw [hnr] at hrv
    subst hrv
    have H0 : Hid (OwnI W W.heap.size (.slice none 0 0) (toI (leanK rs st.bk n 0))) := OwnI.nil _ _
    clear hS hf hbr hrr hn hK hu hnb hnr q0
    go_enter Tryd.func87, Tryd.ntmps87
    go_wp2
    go_loopw [5, 25] (fun vl vi wr => ∃ k : Nat, vi = .int .i64 k ∧ k ≤ nb ∧ Hid (OwnI wr W.heap.size vl (toI (leanK rs st.bk n k))) ∧ Hid (Below W.heap.size W wr)) (fun _ vi _ => nb - (intOf vi).toNat)
    case atStart => exact ⟨0, rfl, by omega, H0, Below.refl _ _⟩
    case round =>
      obtain ⟨k, rfl, hk, HO, HBW⟩ := hrel
      clear H0
      have hk0 : (0 : Int) ≤ (k : Int) := by omega
      by_cases hlt : k < nb
      · have hlt' : (k : Int) < (nb : Int) := by omega
        have hkb : k < st.bk.length := by rw [HNB.out]; exact hlt
        have hku : k < uvs.length := by rw [HUL.out]; exact hlt
        have hSr := HS.out.below HBW.out
        obtain ⟨_, a', c', e', _, hbr⟩ := hSr.bkr
        obtain ⟨gb, cs, ha, _, hgb, hcells⟩ := hbr.resolve_left (fun e => by rw [e] at hkb; simp at hkb)
        injection e' with e1 e2 e3
        clear e2 e3
        rw [ha] at e1
        subst e1
        obtain ⟨c0, c1, c2⟩ := hcells k hkb hku
        obtain ⟨g, o, hra, hRA⟩ := HR.out
        subst hra
        have hnl : n < rs.length := HRL.out
        have hRn := (hRA n hnl).below hSr.bel (Nat.le_refl _)
        obtain ⟨r, hr⟩ : ∃ r, rs[n] = r := ⟨_, rfl⟩
        have hkl := HK.out.k0 _ (List.getElem_mem hnl)
        have hk1 := HK.out.k1 _ (List.getElem_mem hnl)
        have hfs := fstS_at hnl
        rw [hr] at hRn hkl hk1 hfs
        obtain ⟨av, kv, pv, rv', r0, r1, r2, r3, r4, r5, r6, hRR⟩ := hRn
        obtain ⟨ka, kc, hkv, _, hkk⟩ := hRR.k
        obtain ⟨kg, ko, hka, hkd⟩ := hkk.resolve_left (fun e => by rw [e] at hkl; simp at hkl)
        subst hka
        obtain ⟨sv, hs0, hsr⟩ := hkd 0 hkl
        rw [Nat.add_zero] at hs0
        subst hkv
        have hky : keyAt r.key 0 = r.key[0] := by simp [keyAt, hkl]
        rw [hky] at hfs hk1
        have hur := hSr.urs k hkb hku
        have hul := HU.out _ (List.getElem_mem hkb)
        have HT : Hid (∀ wx, Grown wr wx → Calls Tryd.prog 95 #[sv, uvs[k]] wx fun e w' => e = .returned (.bool (touchL (fstS rs n) (usAt st.bk k))) ∧ Grown wx w') := fun wx hx => by
          rw [hfs, usAt_at hkb]
          exact touch_any _ _ _ _ _ (hsr.grown hx) (hur.rs.grown hx) (by omega) (by omega)
        obtain ⟨s1, s2, s3, rfl⟩ := hsr.sl
        obtain ⟨u1, u2, u3, hu4⟩ := hur.rs.sl
        rw [hu4] at c1 HT
        have hkn : (0 : Int) < (r.key.length : Int) := by omega
        clear hSr hbr hgb hcells hRA hRR hkk hkd hsr hur hu4 r0 r1 r3 r4 r5 r6 hky hfs hk1 hul hr hnl
        clear hkl
        generalize r.key.length = kn at *
        generalize (st.bk[k].r : Nat) = xr at *
        generalize st.bk[k].wt = xw at *
        have HKS : Hid (leanK rs st.bk n (k + 1) = leanK rs st.bk n k ++ (if touchL (fstS rs n) (usAt st.bk k) then [k] else [])) := leanK_succ _ _ _ _
        have d0r := (cell_below d0 HBW.out (Nat.le_refl _))
        obtain ⟨tb, htb⟩ : ∃ tb, touchL (fstS rs n) (usAt st.bk k) = tb := ⟨_, rfl⟩
        rw [htb] at HT HKS
        clear htb
        obtain ⟨W5, hW5⟩ : ∃ W5, W5 = wr.alloc (.cells #[.int .i64 xr, .slice u1 u2 u3, .int .i64 xw] 121) := ⟨_, rfl⟩
        have hG5 : Grown wr W5 := by rw [hW5]; exact (Grown.refl _).alloc _
        have p1 : W5.cell? ⟨wr.heap.size, 1, none⟩ = some (.slice u1 u2 u3) := by rw [hW5]; simp
        have f0 := fun m os => (hG5.quiet m os).cellv d0r
        have f1 := fun m os => (hG5.quiet m os).cellv r2
        have f2 := fun m os => (hG5.quiet m os).cellv hs0
        have f3 := fun m os => ((Grown.refl W5).quiet m os).cellv p1
        have HQ : Hid (∀ m os, Grown wr (Go.Sort.grow (W5.drewN m) os)) := fun m os => hG5.quiet m os
        go_wp2
        rw [show wr.alloc (.cells #[.int .i64 xr, .slice u1 u2 u3, .int .i64 xw] 121) = W5 from hW5.symm]
        clear hW5 d0r r2 hs0 p1 c0 c1 c2
        refine wp_region_quiet_grown mixed (by kernel_rfl) ?_
        repeat (go_big_quiet_step ((go_at_call 95; exact grown_of (HT.out _ (HQ.out _ _)))))
        refine wpQuiet_nil ?_
        intro _ hw'
        obtain ⟨⟨nq, osq⟩, hw''⟩ := hw'
        subst hw''
        obtain ⟨w6, hw6⟩ : ∃ w6, w6 = Go.Sort.grow (W5.drewN nq) osq := ⟨_, rfl⟩
        have HG6 : Hid (Grown wr w6) := by rw [hw6]; exact HQ.out _ _
        rw [← hw6]
        clear hw6 HQ f0 f1 f2 f3 hG5 HT
        cases tb with
        | false =>
          have HO2 : Hid (OwnI w6 W.heap.size u5 (toI (leanK rs st.bk n (k + 1)))) := by
            rw [HKS.out]
            simp only [Bool.false_eq_true, if_false, List.append_nil]
            exact HO.out.below HG6.out.below (Nat.le_refl _)
          have HB2 : Hid (Below W.heap.size W w6) := HBW.out.trans (HG6.out.below.mono HBW.out.size)
          go_wp2
          exact ⟨⟨k + 1, by go_num, by omega, HO2, HB2⟩, by simp [intOf]; omega⟩
        | true =>
          have HO2 : Hid (∀ ob, OwnI (w6.alloc ob) W.heap.size u5 (toI (leanK rs st.bk n k))) := fun ob => (HO.out.below HG6.out.below (Nat.le_refl _)).alloc ob
          have HB2 : Hid (∀ ob, Below W.heap.size W (w6.alloc ob)) := fun ob => (HBW.out.trans (HG6.out.below.mono HBW.out.size)).alloc (Nat.le_trans HBW.out.size HG6.out.size) _
          have hlen : (toI (leanK rs st.bk n k)).length ≤ 4096 := by have := leanK_len rs st.bk n k; simp only [toI, List.length_map]; omega
          have HLE : Hid ((toI (leanK rs st.bk n k)).length ≤ 4096) := hlen
          have HSZ : Hid (W.heap.size ≤ w6.heap.size) := Nat.le_trans HBW.out.size HG6.out.size
          clear hlen
          go_wp2_with (at_builtin; go_must (refine push_I rfl _ _ 40 rfl Tryd.underlying40 W.heap.size u5 (toI (leanK rs st.bk n k)) rfl (HO2.out _) w6.heap.size 1 k rfl (by simp) (by have := HLE.out; omega) (by have := HSZ.out; simp; omega) ?_; intro v' w7 hO7 hB7))
          have HO3 : Hid (OwnI w7 W.heap.size v' (toI (leanK rs st.bk n (k + 1)))) := by
            rw [HKS.out, toI_append]
            exact hO7
          exact ⟨⟨k + 1, by go_num, by omega, HO3, (HB2.out _).trans hB7⟩, by simp [intOf]; omega⟩
      · have hge : ¬ (k : Int) < (nb : Int) := by omega
        have hkn : k = nb := by omega
        have HV : Hid (LnR wr w0.heap.size ga u5 (leanL rs st.bk n)) := by
          have := HO.out
          rw [hkn, ← HNB.out, leanK_all] at this
          exact this.lnr HB.out.2 HB.out.1
        have hSr := HS.out.below HBW.out
        obtain ⟨w8, hrun, hI, ht⟩ := hSr.lnm.store (by omega) Tryd.underlying103 hnI u5
        have d4r := cell_below d4 HBW.out (Nat.le_refl _)
        have HF : Hid (LnR w8 w0.heap.size ga u5 (leanL rs st.bk n) ∧ Sc w8 w0 sp m1 ga m2 N1 (N2 + 1) (.slice ba nb bc) uvs (.slice ra nr rc) rs st (updM ln n u5)) := by
          obtain ⟨es, c, ho⟩ := hSr.lnm.isMap
          exact ⟨HV.out.turn ho (.inr (by simp)) (fun b hb => turned_other ht hb), hSr.turn4 ht hI HV.out⟩
        clear hSr hI ht HV HO hkn
        go_wp2
        go_ret
        exact ⟨u5, rfl, HF.out.1, _, HF.out.2⟩
end Go.Proofs
