/-
  newScale: all rules, and no weight above 1.
-/
import Derived.RangeFuncNested
import Derived.RangeFuncBound
import Derived.RangeFuncCalls
import Derived.RangeFuncLeaves
import Derived.Shelf.Abstract
import Derived.Shelf.RegionOpen
import Derived.WalkKit
import Derived.WalkSpells
import Derived.WalkLawsBesides
import Derived.OwnWalkIn
import Derived.TacticsInMore
import Derived.LoopNIn
import Derived.LoopIn
import Derived.BigQuiet
import Derived.RegionIn
import Derived.Deep.QuietTactic
import Derived.Deep.RegionWith
import Derived.Lib.OthersKept
import Derived.Maps.AppendAt
import Derived.Lib.SmallJoins
import Derived.Shelf.SlSortCmp.QuietGrown
import Derived.Deep.AppendLies
import Derived.Laws.OwnMore
import Derived.Carry
import Derived.Deep.RegionLaw
import Derived.Test.YtpopemkhhdekcaaDoorMgcq
namespace Go.Proofs
open Go.RowKit Go.Shelf

set_option maxRecDepth 100000
attribute [local go_sem] Oper.semAt_some
attribute [local go_sem ↓] Go.wp_at_zero Go.wp_at_succ
theorem make_zero (n : Nat) (hn : n ≤ 1000000) (W : World) : (Instr.makeSlice 72 (.int .i64 n) (.int .i64 n)).run Tryd.prog W = .ok (.slice (some ⟨W.heap.size, 0, none⟩) n n) (W.alloc (.cells (ints (List.replicate n 0)).toArray 3)) := by
  obtain ⟨i0, hi, hz0, hz1, hz2⟩ := info_parts iinfo3
  have h := run_make (P := Tryd.prog) W 72 3 i0 (.int .i64 0) Tryd.underlying72 hi hz0 .i64 .i64 (n : Int) (n : Int) (by omega) (Int.le_refl _) (by rw [hz2]; omega) (by omega)
  rw [h, show (n : Int).toNat = n by omega, hz1, Nat.mul_one]
  congr 3
  rw [← Array.toList_inj]
  show (madeCells #[.int .i64 0] n).toList = _
  rw [toList_madeCells_one]
  simp [ints]
/-- the scale when k rules are in -/
def stK (rs : List Rl) (k : Nat) : St := ⟨List.replicate k 1, (rs.take k).map askI ++ List.replicate (rs.length - k) 0, bkI rs k⟩
/-- what is asked while rule k goes in -/
def aqJ (rs : List Rl) (k : Nat) (x : Int) : List Int := (rs.take k).map askI ++ x :: List.replicate (rs.length - (k + 1)) 0
def stJ (rs : List Rl) (k j : Nat) (r : Rl) : St := ⟨List.replicate (k + 1) 1, aqJ rs k (2 - (r.key.length : Int) + (j : Nat)), bkI rs k ++ pbs k ((backP r).take j)⟩
theorem take_len {rs : List Rl} {k : Nat} (h : k < rs.length) : ((rs.take k).map askI).length = k := by simp; omega
theorem aqJ_len {rs : List Rl} {k : Nat} (h : k < rs.length) (x : Int) : (aqJ rs k x).length = rs.length := by
  unfold aqJ
  rw [List.length_append, take_len h]
  simp
  omega
theorem aqJ_set {rs : List Rl} {k : Nat} (h : k < rs.length) (x y : Int) : (aqJ rs k x).set k y = aqJ rs k y := by
  unfold aqJ
  rw [List.set_append_right k y (by rw [take_len h]; exact Nat.le_refl _), take_len h]
  simp
theorem aqJ_at {rs : List Rl} {k : Nat} (h : k < rs.length) (x : Int) : (aqJ rs k x)[k]? = some x := by
  unfold aqJ
  rw [List.getElem?_append_right (by rw [take_len h]; exact Nat.le_refl _), take_len h]
  simp
theorem stK_set {rs : List Rl} {k : Nat} (h : k < rs.length) (x : Int) : (stK rs k).aq.set k x = aqJ rs k x := by
  unfold stK aqJ
  simp only
  rw [show rs.length - k = (rs.length - (k + 1)) + 1 by omega, List.replicate_succ, List.set_append_right k x (by rw [take_len h]; exact Nat.le_refl _), take_len h]
  simp
theorem stK_len {rs : List Rl} {k : Nat} (h : k ≤ rs.length) : (stK rs k).aq.length = rs.length := by
  unfold stK
  simp
  omega
theorem stJ_end {rs : List Rl} {k : Nat} (h : k < rs.length) : stJ rs k (backP rs[k]).length rs[k] = stK rs (k + 1) := by
  unfold stJ stK aqJ
  have h1 : (rs.take (k + 1)).map askI = (rs.take k).map askI ++ [askI rs[k]] := by
    rw [List.take_add_one, List.map_append, List.getElem?_eq_getElem h]
    rfl
  rw [h1, List.take_of_length_le (Nat.le_refl _)]
  congr 1
  · simp [askI]
  · rw [bkI, List.getElem?_eq_getElem h]
    rfl
theorem stJ_start {rs : List Rl} {k : Nat} (r : Rl) : stJ rs k 0 r = ⟨List.replicate k 1 ++ [1], aqJ rs k (2 - (r.key.length : Int)), (stK rs k).bk⟩ := by
  unfold stJ stK
  simp [pbs, List.replicate_succ']
theorem stJ_bk {rs : List Rl} {k j : Nat} {r : Rl} (hj : j < (backP r).length) : (stJ rs k (j + 1) r).bk = (stJ rs k j r).bk ++ (if (backP r)[j].k = 2 then [] else [⟨k, mayB (backP r)[j], 1⟩]) := by
  unfold stJ
  simp only
  rw [List.take_add_one, List.getElem?_eq_getElem hj, List.append_assoc]
  congr 1
  exact pbs_snoc _ _ _
theorem info121 : (Tryd.prog.info? 150).map (fun i => (i.zero, i.size, i.bytes)) = some (some (.agg #[.int .i64 0, .slice none 0 0, .int .i64 0]), 3, 40) := by kernel_rfl
theorem Sc.sp_grown {W W1 w0 : World} {sp m1 ga m2 N1 N2 : Nat} {bv : Value} {uvs : List Value} {rv : Value} {rs : List Rl} {st : St} {ln : Int → Option Value} (h : Sc W w0 sp m1 ga m2 N1 N2 bv uvs rv rs st ln) (ho : BKo W w0.heap.size bv st.bk uvs) (hgr : W.grownBy W1 bv.ownBlock) : W1.heap[sp]? = some (.cells #[rv, .map (some m1), .slice (some ⟨ga, 0, none⟩) st.aq.length st.aq.length, bv, .map (some m2)] 147 (0, 0)) := by
  refine (hgr.block sp (Array.getElem?_eq_some_iff.1 h.blk).1 (fun e => ?_)).trans h.blk
  obtain ⟨_, cs, hc⟩ := ho.row e.symm
  rw [h.blk] at hc
  simp at hc
/-- how newScale ends -/
def NsQ (w : World) (rv : Value) (rs : List Rl) (e : Ending) (w' : World) : Prop := ∃ sp m1 ga m2 bv uvs, e = .returned (.pointer (some ⟨sp, 0, none⟩)) ∧ Sc w' w sp m1 ga m2 rs.length 0 bv uvs rv rs (stK rs rs.length) (fun _ => none)
set_option maxHeartbeats 16000000 in
theorem newScale_any (rv : Value) (rs : List Rl) (w : World) (h : PsR w rv rs) (hO : ∀ r ∈ rs, Ok r) (hn : rs.length ≤ 256) :
    Calls Tryd.prog 69 #[rv] w (NsQ w rv rs) := by
  have HP : Hid (PsR w rv rs) := h
  have HO : Hid (∀ r ∈ rs, Ok r) := hO
  obtain ⟨ra, rc, rfl, _, _⟩ := h
  obtain ⟨n, hnn⟩ : ∃ n, rs.length = n := ⟨_, rfl⟩
  have HN : Hid (rs.length = n) := hnn
  rw [hnn] at hn HP ⊢
  have hnI : (n : Int) ≤ 256 := by omega
  have hmk := make_zero n (by omega)
  have hmm := @run_makeMap Tryd.prog
  clear hnn hO
  go_enter Tryd.func69, Tryd.ntmps69
  obtain ⟨W1, hW1⟩ : ∃ W1, W1 = ((((w.alloc (.map #[] 0)).alloc (.cells (ints (List.replicate n 0)).toArray 3)).alloc (.map #[] 0)).alloc (.cells #[.slice ra n rc, .map (some w.heap.size), .slice (some ⟨w.heap.size + 1, 0, none⟩) n n, .slice none 0 0, .map (some (w.heap.size + 1 + 1))] 147)) := ⟨_, rfl⟩
  have H0 : Hid (∃ bv uvs, Sc W1 w (w.heap.size + 1 + 1 + 1) w.heap.size (w.heap.size + 1) (w.heap.size + 1 + 1) 0 0 bv uvs (.slice ra n rc) rs (stK rs 0) (fun _ => none) ∧ BKo W1 w.heap.size bv (stK rs 0).bk uvs) := by
    have g1 : Grown (w.alloc (.map #[] 0)) W1 := by rw [hW1]; exact (((Grown.refl _).alloc _).alloc _).alloc _
    have b1 : W1.heap[w.heap.size + 1]? = some (.cells (ints (List.replicate n 0)).toArray 3 (0, 0)) := by
      have g : Grown ((w.alloc (.map #[] 0)).alloc (.cells (ints (List.replicate n 0)).toArray 3)) W1 := by rw [hW1]; exact ((Grown.refl _).alloc _).alloc _
      have e := heap_alloc_new (w.alloc (.map #[] 0)) (.cells (ints (List.replicate n 0)).toArray 3)
      have e2 := g.below.block (w.heap.size + 1) (by simp)
      rw [e2]
      simpa using e
    have b3 : W1.heap[w.heap.size + 1 + 1 + 1]? = some (.cells #[.slice ra n rc, .map (some w.heap.size), .slice (some ⟨w.heap.size + 1, 0, none⟩) n n, .slice none 0 0, .map (some (w.heap.size + 1 + 1))] 147 (0, 0)) := by
      rw [hW1]
      have e := heap_alloc_new (((w.alloc (.map #[] 0)).alloc (.cells (ints (List.replicate n 0)).toArray 3)).alloc (.map #[] 0)) (.cells #[.slice ra n rc, .map (some w.heap.size), .slice (some ⟨w.heap.size + 1, 0, none⟩) n n, .slice none 0 0, .map (some (w.heap.size + 1 + 1))] 147)
      simpa using e
    have i1 : IMap W1 w.heap.size 0 (fun _ => none) := (IMap.made w).kept (fun o ho => (g1.below.block _ (Array.getElem?_eq_some_iff.1 ho).1).trans ho)
    have i2 : IMap W1 (w.heap.size + 1 + 1) 0 (fun _ => none) := by
      have g : Grown (((w.alloc (.map #[] 0)).alloc (.cells (ints (List.replicate n 0)).toArray 3)).alloc (.map #[] 0)) W1 := by rw [hW1]; exact (Grown.refl _).alloc _
      have := (IMap.made ((w.alloc (.map #[] 0)).alloc (.cells (ints (List.replicate n 0)).toArray 3))).kept (W' := W1) (fun o ho => (g.below.block _ (Array.getElem?_eq_some_iff.1 ho).1).trans ho)
      simpa using this
    have hB : BKo W1 w.heap.size (.slice none 0 0) (stK rs 0).bk [] := ⟨rfl, World.ownsRow_nil _ _ _ _⟩
    have hl := HN.out
    refine ⟨.slice none 0 0, [], ⟨?_, ?_, HP.out, by omega, by omega, by omega, by omega, by omega, ?_, ?_, hB.bk, fun j hj => by simp [stK, bkI] at hj, i2, fun k v e => by cases e⟩, hB⟩
    · rw [b3, stK_len (Nat.zero_le _), hl]
    · rw [hW1]; exact (((((Grown.refl _).alloc _).alloc _).alloc _).alloc _).below
    · have : wsF (stK rs 0).ws = fun _ => none := by funext k; simp [wsF, stK]
      rw [this]; exact i1
    · rw [b1]; simp [stK, hl]
  go_wp2
  rw [show (((w.alloc (.map #[] 0)).alloc (.cells (ints (List.replicate n 0)).toArray 3)).alloc (.map #[] 0)).alloc (.cells #[.slice ra n rc, .map (some w.heap.size), .slice (some ⟨w.heap.size + 1, 0, none⟩) n n, .slice none 0 0, .map (some (w.heap.size + 1 + 1))] 147) = W1 from hW1.symm]
  clear hW1 hmk hmm
  generalize w.heap.size + 1 + 1 + 1 = sp at H0 ⊢
  generalize w.heap.size + 1 + 1 = m2 at H0 ⊢
  generalize w.heap.size + 1 = ga at H0 ⊢
  go_loopw [18] (fun vi wr => ∃ k : Nat, vi = .int .i64 k ∧ k ≤ n ∧ Hid (∃ bv uvs, Sc wr w sp w.heap.size ga m2 k 0 bv uvs (.slice ra n rc) rs (stK rs k) (fun _ => none) ∧ BKo wr w.heap.size bv (stK rs k).bk uvs)) (fun vi _ => n - (intOf vi).toNat)
  case atStart => exact ⟨0, rfl, by omega, H0⟩
  case round =>
    obtain ⟨k, rfl, hk, HSk⟩ := hrel
    clear H0
    have hk0 : (0 : Int) ≤ (k : Int) := by omega
    by_cases hlt : k < n
    · have hlt' : (k : Int) < (n : Int) := by omega
      have hkI : (k : Int) ≤ 256 := by omega
      have hkl : k < rs.length := by rw [HN.out]; exact hlt
      obtain ⟨bv, uvs, hS, hB⟩ := HSk.out
      clear HSk
      obtain ⟨a', c', e', _, hPr⟩ := HP.out
      obtain ⟨g, o, ha', hRA⟩ := hPr.resolve_left (fun e => by rw [e] at hkl; simp at hkl)
      injection e' with e1 e2 e3
      clear e2 e3
      rw [ha'] at e1
      subst e1
      have hRn := hRA k hkl
      have hOk := HO.out _ (List.getElem_mem hkl)
      obtain ⟨r, hr⟩ : ∃ r, rs[k] = r := ⟨_, rfl⟩
      rw [hr] at hRn hOk
      have hRw := hRn.below hS.bel (Nat.le_refl _)
      obtain ⟨av, kv, pv, rv', r0, r1, r2, r3, r4, r5, r6, hRR⟩ := hRw
      obtain ⟨av2, kv2, pv2, rv2, s0, s1, s2, s3, s4, s5, s6, hRR0⟩ := hRn
      have t1 := cell_below s1 hS.bel (Nat.le_refl _)
      have t2 := cell_below s2 hS.bel (Nat.le_refl _)
      have t3 := cell_below s3 hS.bel (Nat.le_refl _)
      have t5 := cell_below s5 hS.bel (Nat.le_refl _)
      rw [t1] at r1; cases r1
      rw [t2] at r2; cases r2
      rw [t3] at r3; cases r3
      rw [t5] at r5; cases r5
      have HPB : Hid (∀ wx, Calls Tryd.prog 83 #[.agg #[.bool r.bg, av, kv, pv, .bool r.en, rv', .int .i64 r.cu]] wx fun e w' => ∃ v, e = .returned v ∧ PR w v (backP r) ∧ Grown wx w') := fun wx => putBack_any r av kv pv rv' wx w hRR0 hOk.c0 hOk.c1
      have hkl8 : (r.key.length : Int) ≤ 8 := by have := hOk.k8; omega
      have HKL : Hid (1 ≤ r.key.length ∧ r.key.length ≤ 8 ∧ (backP r).length ≤ 16) := ⟨hOk.k0, hOk.k8, by have := hOk.r16; simp [backP]; omega⟩
      obtain ⟨a1, n1, c1, rfl⟩ := hRR0.a.sl
      obtain ⟨ka, kc, hkv, _, _⟩ := hRR0.k
      subst hkv
      obtain ⟨a3, n3, c3, rfl⟩ := hRR0.p.sl
      obtain ⟨a5, n5, c5, rfl⟩ := hRR0.r.sl
      obtain ⟨kl, hkl'⟩ : ∃ kl, r.key.length = kl := ⟨_, rfl⟩
      rw [hkl'] at t2 HPB hkl8 HKL
      have hkl0 : (0 : Int) ≤ (kl : Int) := by omega
      obtain ⟨xb, hxb⟩ : ∃ xb, r.bg = xb := ⟨_, rfl⟩
      obtain ⟨xe, hxe⟩ : ∃ xe, r.en = xe := ⟨_, rfl⟩
      obtain ⟨xc, hxc⟩ : ∃ xc, r.cu = xc := ⟨_, rfl⟩
      rw [hxb] at r0 HPB
      rw [hxe] at r4 HPB
      rw [hxc] at r6 HPB
      obtain ⟨W5, hW5⟩ : ∃ W5, W5 = wr.alloc (.cells #[.bool xb, .slice a1 n1 c1, .slice ka kl kc, .slice a3 n3 c3, .bool xe, .slice a5 n5 c5, .int .i64 xc] 53) := ⟨_, rfl⟩
      have hG5 : Grown wr W5 := by rw [hW5]; exact (Grown.refl _).alloc _
      have b5 : W5.heap[wr.heap.size]? = some (.cells #[.bool xb, .slice a1 n1 c1, .slice ka kl kc, .slice a3 n3 c3, .bool xe, .slice a5 n5 c5, .int .i64 xc] 53 (0, 0)) := by rw [hW5]; exact heap_alloc_new _ _
      have hS5 := hS.grown hG5
      have hB5 := hB.below hG5.below
      obtain ⟨W6, hrun, hI, ht⟩ := hS5.wm.store (by omega) Tryd.underlying144 (k := (k : Int)) ⟨by omega, by omega⟩ (.int .i64 1)
      obtain ⟨es6, c6, ho6⟩ := hS5.wm.isMap
      have hwl : (stK rs k).ws.length = k := by simp [stK]
      have hI2 : IMap W6 w.heap.size (k + 1) (wsF ((stK rs k).ws ++ [1])) := by rw [← wsF_snoc, hwl]; exact hI
      have hS6 := hS5.turn1 ht hI2
      have hB6 : BKo W6 w.heap.size bv (stK rs k).bk uvs := hB5.turn ho6 (by simp) (fun b hb => turned_other ht hb)
      have b6 : W6.heap[wr.heap.size]? = some (.cells #[.bool xb, .slice a1 n1 c1, .slice ka kl kc, .slice a3 n3 c3, .bool xe, .slice a5 n5 c5, .int .i64 xc] 53 (0, 0)) := (turned_other ht (ne_obj b5 ho6 (by simp))).trans b5
      have q1 : ∀ o, (wr.alloc o).cell? ⟨sp, 1, none⟩ = some (.map (some w.heap.size)) := fun o => cell_up (by rw [cell_of hS.blk]; simp) o
      have hal : (stK rs k).aq.length = n := by rw [stK_len (by omega)]; exact HN.out
      have q2 : W6.cell? ⟨sp, 2, none⟩ = some (.slice (some ⟨ga, 0, none⟩) n n) := by rw [cell_of hS6.blk]; simp [hal]
      have hga6 := hS6.asb
      have hkq : k < (stK rs k).aq.length := by omega
      have qa : ∃ u, W6.cell? ⟨ga, k, none⟩ = some u := by rw [cell_of hga6]; exact ⟨.int .i64 (at0 (stK rs k).aq k), by simp [ints, at0, hkq]⟩
      obtain ⟨u6, qa⟩ := qa
      have qf : W6.frozen? ⟨ga, k, none⟩ = false := free_of hga6
      have q5 : W6.cell? ⟨wr.heap.size, 2, none⟩ = some (.slice ka kl kc) := by rw [cell_of b6]; simp
      -- behind the store
      have hS7 := hS6.turn2 k (2 - (kl : Int))
      rw [show (St.mk ((stK rs k).ws ++ [1]) (stK rs k).aq (stK rs k).bk).aq = (stK rs k).aq from rfl, stK_set hkl] at hS7
      have hB7 := hB6.turn hga6 (by simp) (turns_set W6 ga k (.int .i64 (2 - (kl : Int))))
      have b7 : (W6.setCell ⟨ga, k, none⟩ (.int .i64 (2 - (kl : Int)))).heap[wr.heap.size]? = some (.cells #[.bool xb, .slice a1 n1 c1, .slice ka kl kc, .slice a3 n3 c3, .bool xe, .slice a5 n5 c5, .int .i64 xc] 53 (0, 0)) := (turns_set _ _ _ _ _ (ne_obj b6 hga6 (by simp))).trans b6
      have HJ0 : Hid (∃ bv uvs, Sc (W6.setCell ⟨ga, k, none⟩ (.int .i64 (2 - (kl : Int)))) w sp w.heap.size ga m2 (k + 1) 0 bv uvs (.slice (some ⟨g, o, none⟩) n rc) rs (stJ rs k 0 r) (fun _ => none) ∧ BKo (W6.setCell ⟨ga, k, none⟩ (.int .i64 (2 - (kl : Int)))) w.heap.size bv (stJ rs k 0 r).bk uvs) := by
        rw [stJ_start, hkl']
        exact ⟨bv, uvs, hS7, hB7⟩
      have HR : Hid (rs[k] = r ∧ r.key.length = kl ∧ k < rs.length) := ⟨hr, hkl', hkl⟩
      rw [hW5] at hrun
      clear hS hB hPr ha' hRA hOk hr hRR hRR0 hS5 hB5 hI hI2 hS6 hB6 ht ho6 hwl hal hga6 hkq hS7 hB7 hxb hxe hxc hkl' s0 s1 s2 s3 s4 s5 s6
      obtain ⟨W7, hW7⟩ : ∃ W7, W7 = W6.setCell ⟨ga, k, none⟩ (.int .i64 (2 - (kl : Int))) := ⟨_, rfl⟩
      rw [← hW7] at HJ0 b7
      have hnum : (1 : Int) - ((kl : Int) - 1) = 2 - (kl : Int) := by omega
      have p0 : W7.cell? ⟨wr.heap.size, 0, none⟩ = some (.bool xb) := by rw [cell_of b7]; simp
      have p1 : W7.cell? ⟨wr.heap.size, 1, none⟩ = some (.slice a1 n1 c1) := by rw [cell_of b7]; simp
      have p2 : W7.cell? ⟨wr.heap.size, 2, none⟩ = some (.slice ka kl kc) := by rw [cell_of b7]; simp
      have p3 : W7.cell? ⟨wr.heap.size, 3, none⟩ = some (.slice a3 n3 c3) := by rw [cell_of b7]; simp
      have p4 : W7.cell? ⟨wr.heap.size, 4, none⟩ = some (.bool xe) := by rw [cell_of b7]; simp
      have p5 : W7.cell? ⟨wr.heap.size, 5, none⟩ = some (.slice a5 n5 c5) := by rw [cell_of b7]; simp
      have p6 : W7.cell? ⟨wr.heap.size, 6, none⟩ = some (.int .i64 xc) := by rw [cell_of b7]; simp
      clear b5 b6 b7 hW5 hG5
      go_wp2
      go_region
      rw [← hW7]
      clear hW7 q1 q2 qa qf q5 hrun hnum
      go_wp2_with fail
      refine (HPB.out _).mono ?_
      rintro e w8 ⟨v, rfl, hPR, hG8⟩
      have HPR : Hid (PR w v (backP r)) := hPR
      have HJ1 : Hid (∃ bv uvs, Sc w8 w sp w.heap.size ga m2 (k + 1) 0 bv uvs (.slice (some ⟨g, o, none⟩) n rc) rs (stJ rs k 0 r) (fun _ => none) ∧ BKo w8 w.heap.size bv (stJ rs k 0 r).bk uvs) := by
        obtain ⟨bv, uvs, h1, h2⟩ := HJ0.out
        have hg : Grown W7 w8 := (Grown.refl W7).drew.trans hG8
        exact ⟨bv, uvs, h1.grown hg, h2.below hg.below⟩
      obtain ⟨pa, pc, rfl, _, _⟩ := hPR
      obtain ⟨nb, hnb⟩ : ∃ nb, (backP r).length = nb := ⟨_, rfl⟩
      have HNB : Hid ((backP r).length = nb) := hnb
      rw [hnb] at HPR HKL ⊢
      have hnbI : (nb : Int) ≤ 16 := by have := HKL.out; omega
      clear hnb HJ0 hG8 HPB p0 p1 p2 p3 p4 p5 p6 r0 r4 r6 t1 t2 t3 t5 HP
      go_wp2
      go_loopw [42] (fun vj wx => ∃ j : Nat, vj = .int .i64 j ∧ j ≤ nb ∧ Hid (∃ bv uvs, Sc wx w sp w.heap.size ga m2 (k + 1) 0 bv uvs (.slice (some ⟨g, o, none⟩) n rc) rs (stJ rs k j r) (fun _ => none) ∧ BKo wx w.heap.size bv (stJ rs k j r).bk uvs)) (fun vj _ => nb - (intOf vj).toNat)
      case atStart => exact ⟨0, rfl, by omega, HJ1⟩
      case round =>
        obtain ⟨j, rfl, hj, HSj⟩ := hrel
        clear HJ1
        have hj0 : (0 : Int) ≤ (j : Int) := by omega
        by_cases hjl : j < nb
        · have hjl' : (j : Int) < (nb : Int) := by omega
          have hjb : j < (backP r).length := by rw [HNB.out]; exact hjl
          obtain ⟨bv2, uvs2, hS, hB⟩ := HSj.out
          clear HSj
          obtain ⟨a', c', e', _, hPr⟩ := HPR.out
          obtain ⟨pg, po, ha', hPd⟩ := hPr.resolve_left (fun e => by rw [e] at hjb; simp at hjb)
          injection e' with e1 e2 e3
          clear e2 e3
          rw [ha'] at e1
          subst e1
          have hPA := hPd j hjb
          have hbk1 := stJ_bk (rs := rs) (k := k) hjb
          obtain ⟨p, hp⟩ : ∃ p, (backP r)[j] = p := ⟨_, rfl⟩
          rw [hp] at hPA hbk1
          obtain ⟨tv, x0, x1, x2, x3, hRs⟩ := hPA
          have y0 := cell_below x0 hS.bel (Nat.le_refl _)
          have y1 := cell_below x1 hS.bel (Nat.le_refl _)
          have y2 := cell_below x2 hS.bel (Nat.le_refl _)
          have y3 := cell_below x3 hS.bel (Nat.le_refl _)
          have HUR : Hid (∀ W', Below w.heap.size w W' → UR W' w.heap.size tv p.tl) := fun W' hb => hRs.ur hb
          obtain ⟨ta, tn, tc, rfl⟩ := hRs.sl
          have HPK : Hid ((backP r)[j] = p) := hp
          have hkrs := HR.out.2.2
          have hql : (stJ rs k j r).aq.length = n := by show (aqJ rs k _).length = n; rw [aqJ_len hkrs]; exact HN.out
          have z2 : ∀ o, (wr.alloc o).cell? ⟨sp, 2, none⟩ = some (.slice (some ⟨ga, 0, none⟩) n n) := fun o => cell_up (by rw [cell_of hS.blk]; simp [hql]) o
          have za : ∀ o, (wr.alloc o).cell? ⟨ga, k, none⟩ = some (.int .i64 (2 - (kl : Int) + (j : Int))) := fun o => cell_up (by rw [cell_of hS.asb]; show (ints (aqJ rs k _)).toArray[k]? = _; simp [ints, aqJ_at hkrs, HR.out.2.1]) o
          have zf : ∀ ob, (wr.alloc ob).frozen? ⟨ga, k, none⟩ = false := fun ob => free_of (B := ga) (((Grown.refl wr).alloc ob).below.block ga (Array.getElem?_eq_some_iff.1 hS.asb).1 |>.trans hS.asb)
          obtain ⟨pk, hpk⟩ : ∃ pk, p.k = pk := ⟨_, rfl⟩
          obtain ⟨pu, hpu⟩ : ∃ pu, p.u = pu := ⟨_, rfl⟩
          obtain ⟨py, hpy⟩ : ∃ py, p.y = py := ⟨_, rfl⟩
          rw [hpk] at y0
          rw [hpu] at y1
          rw [hpy] at y2
          have HMB : Hid (∀ wx, UR wx w.heap.size (.slice ta tn tc) p.tl → Calls Tryd.prog 84 #[.agg #[.int .i64 pk, .int .i64 pu, .int .i64 py, .slice ta tn tc]] wx fun e w' => ∃ v, e = .returned v ∧ UR w' w.heap.size v (mayB p) ∧ Grown wx w') := fun wx hx => by
            have := mayBe_any p (.slice ta tn tc) wx w.heap.size hx
            rw [hpk, hpu, hpy] at this
            exact this
          have HBK1 : Hid ((stJ rs k (j + 1) r).bk = (stJ rs k j r).bk ++ (if pk = 2 then [] else [⟨k, mayB p, 1⟩])) := by show _ = _; rw [hbk1, hpk]
          have hjI : (j : Int) ≤ 16 := by omega
          have hklI : (0 : Int) ≤ (kl : Int) ∧ (kl : Int) ≤ 8 := ⟨hkl0, hkl8⟩
          have HS : Hid (Sc wr w sp w.heap.size ga m2 (k + 1) 0 bv2 uvs2 (.slice (some ⟨g, o, none⟩) n rc) rs (stJ rs k j r) (fun _ => none)) := hS
          have HB : Hid (BKo wr w.heap.size bv2 (stJ rs k j r).bk uvs2) := hB
          clear hS hB hPr ha' hPd hRs hbk1 hp hpk hpu hpy hql x0 x1 x2 x3
          obtain ⟨V2, hV2⟩ : ∃ V2, V2 = (wr.alloc (.cells #[.int .i64 pk, .int .i64 pu, .int .i64 py, .slice ta tn tc] 59)).setCell ⟨ga, k, none⟩ (.int .i64 (2 - (kl : Int) + (j : Int) + 1)) := ⟨_, rfl⟩
          have hVS : Sc V2 w sp w.heap.size ga m2 (k + 1) 0 bv2 uvs2 (.slice (some ⟨g, o, none⟩) n rc) rs ⟨(stJ rs k j r).ws, (stJ rs k (j + 1) r).aq, (stJ rs k j r).bk⟩ (fun _ => none) := by
            have h1 := (HS.out.grown ((Grown.refl _).alloc (.cells #[.int .i64 pk, .int .i64 pu, .int .i64 py, .slice ta tn tc] 59))).turn2 k (2 - (kl : Int) + (j : Int) + 1)
            rw [hV2]
            have e1 : (stJ rs k j r).aq.set k (2 - (kl : Int) + (j : Int) + 1) = (stJ rs k (j + 1) r).aq := by
              show (aqJ rs k _).set k _ = aqJ rs k _
              rw [aqJ_set hkrs, HR.out.2.1]
              congr 1
              omega
            rw [e1] at h1
            exact h1
          have hasb1 := (HS.out.grown ((Grown.refl _).alloc (.cells #[.int .i64 pk, .int .i64 pu, .int .i64 py, .slice ta tn tc] 59))).asb
          have hVB : BKo V2 w.heap.size bv2 (stJ rs k j r).bk uvs2 := by
            rw [hV2]
            exact (HB.out.below ((Grown.refl _).alloc _).below).turn hasb1 (by simp) (turns_set _ _ _ _)
          have bp1 : (wr.alloc (.cells #[.int .i64 pk, .int .i64 pu, .int .i64 py, .slice ta tn tc] 59)).heap[wr.heap.size]? = some (.cells #[.int .i64 pk, .int .i64 pu, .int .i64 py, .slice ta tn tc] 59 (0, 0)) := heap_alloc_new _ _
          have bp : V2.heap[wr.heap.size]? = some (.cells #[.int .i64 pk, .int .i64 pu, .int .i64 py, .slice ta tn tc] 59 (0, 0)) := by
            rw [hV2]
            exact (turns_set _ _ _ _ _ (ne_obj bp1 hasb1 (by simp))).trans bp1
          have HVS : Hid (Sc V2 w sp w.heap.size ga m2 (k + 1) 0 bv2 uvs2 (.slice (some ⟨g, o, none⟩) n rc) rs ⟨(stJ rs k j r).ws, (stJ rs k (j + 1) r).aq, (stJ rs k j r).bk⟩ (fun _ => none)) := hVS
          have HVB : Hid (BKo V2 w.heap.size bv2 (stJ rs k j r).bk uvs2) := hVB
          have c0 : V2.cell? ⟨wr.heap.size, 0, none⟩ = some (.int .i64 pk) := by rw [cell_of bp]; simp
          have c0' := c0
          rw [hV2] at c0'
          clear hVS hVB hasb1 bp1 HS HB
          by_cases h2 : pk = 2
          · as_aux_lemma =>
              subst h2
              have HF : Hid (∃ bv uvs, Sc V2 w sp w.heap.size ga m2 (k + 1) 0 bv uvs (.slice (some ⟨g, o, none⟩) n rc) rs (stJ rs k (j + 1) r) (fun _ => none) ∧ BKo V2 w.heap.size bv (stJ rs k (j + 1) r).bk uvs) := by
                have e := HBK1.out
                simp only [if_true, List.append_nil] at e
                refine ⟨bv2, uvs2, ?_, by rw [e]; exact HVB.out⟩
                have := HVS.out
                rw [← e] at this
                exact this
              clear HVS HVB bp HBK1 HMB HUR
              rw [hV2] at HF
              clear c0 hV2
              go_wp2
              exact ⟨⟨j + 1, by go_num, by omega, HF⟩, by simp [intOf]; omega⟩
          · have h2' : (pk != 2) = true := by simpa using h2
            have d3 : V2.drew.cell? ⟨sp, 3, none⟩ = some bv2 := by rw [cell_drew_own, cell_of HVS.out.blk]; simp
            have c1 : V2.cell? ⟨wr.heap.size, 1, none⟩ = some (.int .i64 pu) := by rw [cell_of bp]; simp
            have c2 : V2.cell? ⟨wr.heap.size, 2, none⟩ = some (.int .i64 py) := by rw [cell_of bp]; simp
            have c3 : V2.cell? ⟨wr.heap.size, 3, none⟩ = some (.slice ta tn tc) := by rw [cell_of bp]; simp
            obtain ⟨L, hL⟩ : ∃ L, (stJ rs k j r).bk.length = L := ⟨_, rfl⟩
            have HLB : Hid (L ≤ 5000) := by
              show L ≤ 5000
              have h1 := bkI_len (rs := rs) (fun r hr => (HO.out r hr).r16) k
              have h2 := pbs_len k ((backP r).take j)
              rw [← hL]
              show (bkI rs k ++ pbs k _).length ≤ _
              simp at h2 ⊢
              omega
            have HUV : Hid (UR V2.drew w.heap.size (.slice ta tn tc) p.tl) := HUR.out _ (HVS.out.bel.drew)
            have HON : Hid (∀ (w9 : World) (ob : Obj), Grown V2.drew w9 → (w9.alloc ob).ownsRow w.heap.size 150 3 bv2 L (fbk (stJ rs k j r).bk uvs2) ∧ w.heap.size ≤ (w9.alloc ob).heap.size) := fun w9 ob h9 => by
              have hg : Grown V2 (w9.alloc ob) := ((Grown.refl V2).drew.trans h9).alloc ob
              refine ⟨?_, Nat.le_trans HVS.out.bel.size hg.size⟩
              have := (HVB.out.below hg.below).2
              rw [hL] at this
              exact this
            have HFIN : Hid (∀ (w9 w10 : World) (va : Option Addr) (vn vc g10 cap : Nat), Grown V2.drew w9 → UR w9 w.heap.size (.slice va vn vc) (mayB p) → w10.ownsRow w.heap.size 150 3 (.slice (some ⟨g10, 0, none⟩) (L + 1) cap) (L + 1) (fbk (stJ rs k j r).bk uvs2 ++ fb1 ⟨k, mayB p, 1⟩ (.slice va vn vc)) → (w9.alloc (.cells #[.int .i64 k, .slice va vn vc, .int .i64 1] 150)).grownBy w10 bv2.ownBlock → (w10.cell? ⟨sp, 3, none⟩ = some bv2 ∧ w10.frozen? ⟨sp, 3, none⟩ = false) ∧ ∃ bv uvs, Sc (w10.setCell ⟨sp, 3, none⟩ (.slice (some ⟨g10, 0, none⟩) (L + 1) cap)) w sp w.heap.size ga m2 (k + 1) 0 bv uvs (.slice (some ⟨g, o, none⟩) n rc) rs (stJ rs k (j + 1) r) (fun _ => none) ∧ BKo (w10.setCell ⟨sp, 3, none⟩ (.slice (some ⟨g10, 0, none⟩) (L + 1) cap)) w.heap.size bv (stJ rs k (j + 1) r).bk uvs) := fun w9 w10 va vn vc g10 cap h9 hv hown hgr => by
              have hg : Grown V2 (w9.alloc (.cells #[.int .i64 k, .slice va vn vc, .int .i64 1] 150)) := ((Grown.refl V2).drew.trans h9).alloc _
              have hS9 := HVS.out.grown hg
              have hB9 := HVB.out.below hg.below
              have hsp := hS9.sp_grown hB9 hgr
              refine ⟨⟨by rw [cell_of hsp]; simp, free_of hsp⟩, ?_⟩
              have ht5 := hS9.turn5 (b := ⟨k, mayB p, 1⟩) (uv := .slice va vn vc) hB9 hL hown hgr (hv.below ((Grown.refl _).alloc _).below)
              have e := HBK1.out
              rw [if_neg h2] at e
              refine ⟨.slice (some ⟨g10, 0, none⟩) (L + 1) cap, uvs2 ++ [.slice va vn vc], ?_, ?_⟩
              · have := ht5.1
                simp only at this
                rw [← e] at this
                exact this
              · rw [e]; exact ht5.2.1
            clear HVS HVB HUR bp hL HBK1
            go_wp2
            rw [← hV2]
            clear hV2 c0'
            obtain ⟨i0, hi, hz0, hz1, hz2⟩ := info_parts info121
            go_region_law (first
              | (go_simp; go_at_call 84; refine (HMB.out _ HUV.out).mono ?_; rintro e w9 ⟨v, rfl, hv, hG9⟩; obtain ⟨va, vn, vc, rfl⟩ := hv.rs.sl; have HV9 : Hid (UR w9 w.heap.size (.slice va vn vc) (mayB p)) := hv; have HG9 : Hid (Grown V2.drew w9) := hG9; have d39 := hG9.cellv d3; have d39' := fun ob => cell_up d39 ob; clear hv hG9)
              | (refine step_append_lies _ rfl (.tmp 62) (.tmp 67) 145 rfl w.heap.size 150 i0 (.agg #[.int .i64 0, .slice none 0 0, .int .i64 0]) 3 40 Tryd.underlying145 hi hz0 hz1 hz2 rfl (by decide) bv2 L (fbk (stJ rs k j r).bk uvs2) rfl (HON.out _ _ HG9.out).1 ⟨w9.heap.size, 0, none⟩ 1 1 (fb1 ⟨k, mayB p, 1⟩ (.slice va vn vc)) rfl rfl (fun j u hj => by rw [add_zero_at, cell_of (heap_alloc_new _ _)]; simpa [fb1] using hj) (fun u hu => by simp [fb1] at hu; rcases hu with rfl | rfl | rfl <;> rfl) (by omega) (by have := HLB.out; unfold maxLen; omega) (by have := HLB.out; omega) (HON.out _ _ HG9.out).2 _ rfl ?_; intro g10 cap w10 hown hgr _ _; obtain ⟨⟨f3, ff⟩, hfin⟩ := HFIN.out w9 w10 va vn vc g10 cap HG9.out HV9.out hown hgr; have HFF : Hid (∃ bv uvs, Sc (w10.setCell ⟨sp, 3, none⟩ (.slice (some ⟨g10, 0, none⟩) (L + 1) cap)) w sp w.heap.size ga m2 (k + 1) 0 bv uvs (.slice (some ⟨g, o, none⟩) n rc) rs (stJ rs k (j + 1) r) (fun _ => none) ∧ BKo (w10.setCell ⟨sp, 3, none⟩ (.slice (some ⟨g10, 0, none⟩) (L + 1) cap)) w.heap.size bv (stJ rs k (j + 1) r).bk uvs) := hfin; clear hfin hown hgr))
            all_goals (go_wp2; exact ⟨⟨j + 1, by go_num, by omega, HFF⟩, by simp [intOf]; omega⟩)
        · have hge : ¬ (j : Int) < (nb : Int) := by omega
          have HF : Hid (∃ bv uvs, Sc wr w sp w.heap.size ga m2 (k + 1) 0 bv uvs (.slice (some ⟨g, o, none⟩) n rc) rs (stK rs (k + 1)) (fun _ => none) ∧ BKo wr w.heap.size bv (stK rs (k + 1)).bk uvs) := by
            have := HSj.out
            have e : stJ rs k j r = stK rs (k + 1) := by
              rw [← stJ_end HR.out.2.2, HR.out.1, HNB.out]
              congr 1
              omega
            rw [e] at this
            exact this
          clear HSj
          go_wp2
          exact ⟨⟨k + 1, by go_num, by omega, HF⟩, by simp [intOf]; omega⟩
    · have hge : ¬ (k : Int) < (n : Int) := by omega
      have HF : Hid (NsQ w (.slice ra n rc) rs (.returned (.pointer (some ⟨sp, 0, none⟩))) wr) := by
        obtain ⟨bv, uvs, h1, _⟩ := HSk.out
        have e : k = rs.length := by have := HN.out; omega
        subst e
        exact ⟨sp, _, ga, m2, bv, uvs, rfl, h1⟩
      clear HSk
      go_wp2
      go_ret
      exact HF.out
end Go.Proofs
