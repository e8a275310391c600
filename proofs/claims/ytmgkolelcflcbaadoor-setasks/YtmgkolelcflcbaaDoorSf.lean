/-
  The iterator of All.
-/
import Derived.RangeFuncNested
import Derived.RangeFuncBound
import Derived.RangeFuncCalls
import Derived.RangeFuncLeaves
import Derived.Shelf.Abstract
import Derived.Shelf.RegionOpen
import Derived.WalkKit
import Derived.WalkSpells
import Derived.WalkLawsBesides
import Derived.OwnWalkIn
import Derived.TacticsInMore
import Derived.LoopNIn
import Derived.LoopIn
import Derived.BigQuiet
import Derived.RegionIn
import Derived.Deep.QuietTactic
import Derived.Deep.RegionWith
import Derived.Lib.OthersKept
import Derived.Maps.AppendAt
import Derived.Lib.SmallJoins
import Derived.Test.YtmgkolelcflcbaaDoorSe
namespace Go.Proofs
open Go.RowKit Go.Shelf

set_option maxRecDepth 100000
attribute [local go_sem] Oper.semAt_some

def nums (x : Int × Int) : List Int := upTo x.1 (x.2 + 1 - x.1).toNat
def allL (ls : List (Int × Int)) : List Int := ls.flatMap nums
theorem allL_take {ls : List (Int × Int)} {k : Nat} (h : k < ls.length) : allL (ls.take (k + 1)) = allL (ls.take k) ++ nums (rg ls k) := by
  have e : ls.take (k + 1) = ls.take k ++ [ls[k]] := by simp
  rw [rg_lt h, allL, allL, e, List.flatMap_append]
  simp [nums]
theorem allL_pre (ls : List (Int × Int)) (k : Nat) : allL (ls.take k) <+: allL ls := by
  have e : allL ls = allL (ls.take k) ++ allL (ls.drop k) := by unfold allL; rw [← List.flatMap_append, List.take_append_drop]
  exact ⟨_, e.symm⟩
theorem allL_at {ls : List (Int × Int)} {k : Nat} (h : k < ls.length) {p : List Int} (hp : p <+: nums (rg ls k)) : allL (ls.take k) ++ p <+: allL ls := by
  refine List.IsPrefix.trans ?_ (allL_pre ls (k + 1))
  rw [allL_take h]
  obtain ⟨t, ht⟩ := hp
  exact ⟨t, by rw [List.append_assoc, ht]⟩
theorem blk_kept {W W' : World} {row : Option Nat} {k : Nat} {o : Obj} (h : W.heap[k]? = some o) (ho : o.isCells = true) (hg : W.grownBy W' row) (hr : ∀ r, row = some r → ∃ o : Obj, W.heap[r]? = some o ∧ o.isCells = false) : W'.heap[k]? = some o :=
  (hg.block k (Array.getElem?_eq_some_iff.1 h).1 (fun e => by obtain ⟨o', h1, h2⟩ := hr k e.symm; rw [h] at h1; cases h1; rw [ho] at h2; cases h2)).trans h
theorem reads_same {W W' : World} {g : Nat} {o : Obj} {l : List (Int × Int)} (h : Reads W g 0 l) (h1 : W.heap[g]? = some o) (h2 : W'.heap[g]? = some o) : Reads W' g 0 l := fun j hj => by
  have := h j hj
  simp only [World.cell?, h1, h2] at this ⊢
  exact this
/-- what stands behind some numbers of a range -/
def AI (J : List Int → World → Prop) (h l g : Nat) (cur : Array Value) (m : List Int) (Bx : Nat) (a b : Int) (Ds : List Nat) (pre : List Int) (W : World) : Prop :=
  J (m ++ pre) W ∧ W.heap[h]? = some (.cells #[.func (.yield l) #[] #[]] 67 (0, 0)) ∧ W.heap[g]? = some (.cells cur 38 (0, 0)) ∧ W.heap[Bx]? = some (.cells #[.int .i64 a, .int .i64 b] 38 (0, 0)) ∧ Marks h Ds W
theorem marks_own {h B : Nat} {Ds : List Nat} {X Y : World} {row : Option Nat} (hm : Marks h Ds X) (hD : ∀ D ∈ Ds, D < B) (hg : X.grownBy Y row) (hr : ∀ r, row = some r → B ≤ r ∧ ∃ o : Obj, X.heap[r]? = some o ∧ o.isCells = false) : Marks h Ds Y := fun D hDm => by
  have hX := (hm D hDm).2
  refine ⟨(hm D hDm).1, (hg.block D (Array.getElem?_eq_some_iff.1 hX).1 (fun e => ?_)).trans hX⟩
  have h8 := (hr D e.symm).1
  have h9 := hD D hDm
  omega
theorem AI_own {J : List Int → World → Prop} {h l g : Nat} {cur : Array Value} {m : List Int} {Bx : Nat} {a b : Int} {Ds : List Nat} {B : Nat} (hJ : OwnFrom h J) (hB : h ≤ B) (hD : ∀ D ∈ Ds, D < B) : OwnFrom B (AI J h l g cur m Bx a b Ds) := by
  rintro p X Y row ⟨h1, h2, h3, h4, h5⟩ hg hr
  exact ⟨hJ _ X Y row h1 hg (fun r e => ⟨by have := (hr r e).1; omega, (hr r e).2⟩), blk_kept h2 rfl hg (fun r e => (hr r e).2), blk_kept h3 rfl hg (fun r e => (hr r e).2), blk_kept h4 rfl hg (fun r e => (hr r e).2), marks_own h5 hD hg hr⟩
set_option maxHeartbeats 2000000 in
theorem all_in (B l g c : Nat) (cur : Array Value) (ls : List (Int × Int)) (N : Nat) (hlen : ls.length = N) (hN : N ≤ 512) (hG : ∀ k, k < N → 0 ≤ (rg ls k).1 ∧ (rg ls k).1 ≤ (rg ls k).2 ∧ (rg ls k).2 ≤ 1114367) (J Jx : List Int → World → Prop) (W0 : World) (hJ : OwnFrom W0.heap.size J) (hJx : OwnFrom W0.heap.size Jx)
    (hY : ∀ pre x X, J pre X → pre.length < (allL ls).length → YieldAt Fence.wide 4 Tryd.prog l (encU x) X fun e Y => (e = .returned (.bool true) ∧ J (pre ++ [x]) Y ∧ Kt W0.heap.size X Y) ∨ (e = .returned (.bool false) ∧ Jx (pre ++ [x]) Y ∧ KeepsFrom W0.heap.size X Y))
    (h0 : J [] W0) (hB : Boxed W0 B 29 (.slice (some ⟨g, 0, none⟩) N c)) (hg : W0.heap[g]? = some (.cells cur 38 (0, 0))) (hrd : Reads W0 g 0 ls) :
    CallsIn Fence.wide 5 Tryd.prog 59 #[.func (.yield l) #[] #[], .pointer (some ⟨B, 0, none⟩)] W0 fun e Y => (∃ v, e = .returned v) ∧ ((∃ xs, xs = allL ls ∧ J xs Y) ∨ (∃ pre, (pre <+: allL ls ∧ pre ≠ []) ∧ Jx pre Y)) := by
  obtain ⟨h, hh⟩ : ∃ h, W0.heap.size = h := ⟨_, rfl⟩
  rw [hh] at hJ hJx hY
  have hc := cell_up hB.cell (.cells #[.func (.yield l) #[] #[]] 67)
  have HV1 : Hid ((W0.alloc (.cells #[.func (.yield l) #[] #[]] 67)).heap[h]? = some (.cells #[.func (.yield l) #[] #[]] 67 (0, 0))) := by have := World.alloc_heap_new W0 (.cells #[.func (.yield l) #[] #[]] 67); rw [hh] at this; exact this
  have HV2 : Hid ((W0.alloc (.cells #[.func (.yield l) #[] #[]] 67)).heap[g]? = some (.cells cur 38 (0, 0))) := blk_kept hg rfl (World.grownBy_alloc W0 _ none) (fun r e => by cases e)
  have HV3 : Hid (J [] (W0.alloc (.cells #[.func (.yield l) #[] #[]] 67))) := hJ.alloc _ h0
  have HZ : Hid ((W0.alloc (.cells #[.func (.yield l) #[] #[]] 67)).heap.size = h + 1) := by rw [Hid]; simp [hh]
  have HR : Hid (Reads W0 g 0 ls ∧ W0.heap[g]? = some (.cells cur 38 (0, 0))) := ⟨hrd, hg⟩
  have HL : Hid (ls.length = N) := hlen
  have HG : Hid (∀ k, k < N → 0 ≤ (rg ls k).1 ∧ (rg ls k).1 ≤ (rg ls k).2 ∧ (rg ls k).2 ≤ 1114367) := hG
  clear hrd hg h0 hB hlen hG
  refine callsIn_of_wp_marks Tryd.func59 rfl trivial ?_ rfl
  simp only [Tryd.ntmps59, List.size_toArray, List.length_cons, List.length_nil, Nat.reduceAdd, Nat.reduceSub, Array.replicate_succ, Array.replicate_zero, List.push_toArray, List.append_toArray, List.nil_append, List.cons_append]
  gi_wp2
  refine wpIn_loop (fun a' W => ∃ (k : Nat) (u4 u5 u9 u10 u11 u12 u13 u14 u15 u16 u17 u18 u19 : Value) (Ds : List Nat), a' = { tmps := #[.func (.yield l) #[] #[], .pointer (some ⟨B, 0, none⟩), .pointer (some ⟨h, 0, none⟩), undef, u4, u5, .slice (some ⟨g, 0, none⟩) N c, .int .i64 N, .int .i64 k, u9, u10, u11, u12, u13, u14, u15, u16, u17, u18, u19], defers := Ds.map mk } ∧ k ≤ N ∧ J (allL (ls.take k)) W ∧ W.heap[h]? = some (.cells #[.func (.yield l) #[] #[]] 67 (0, 0)) ∧ W.heap[g]? = some (.cells cur 38 (0, 0)) ∧ Ds.Nodup ∧ Marks h Ds W) (fun a' _ => N - (intOf (a'.tmps.getD 8 undef)).toNat) ?start ?round
  case start => exact ⟨0, _, _, _, _, _, _, _, _, _, _, _, _, _, [], rfl, by omega, HV3.out, HV1.out, HV2.out, List.nodup_nil, fun D hD => by simp at hD⟩
  case round =>
    rintro a' wr ⟨k, u4, u5, u9, u10, u11, u12, u13, u14, u15, u16, u17, u18, u19, Ds, rfl, hk, hJr, hy1, hg1, hnd, hM⟩
    clear HV1 HV2 HV3 hc
    by_cases hlt : k < N
    · as_aux_lemma =>
        have hlt' : (k : Int) < (N : Int) := by omega
        have hpos : (0 : Int) ≤ (k : Int) := by omega
        have hkl : k < ls.length := by rw [HL.out]; exact hlt
        obtain ⟨ha, hab2, hb⟩ := HG.out k hlt
        have HCk : Hid (allL (ls.take (k + 1)) = allL (ls.take k) ++ nums (rg ls k) ∧ ∀ p, p <+: nums (rg ls k) → allL (ls.take k) ++ p <+: allL ls) := ⟨allL_take hkl, fun p hp => allL_at hkl hp⟩
        obtain ⟨a, b, hab⟩ : ∃ a b : Int, rg ls k = (a, b) := ⟨_, _, rfl⟩
        obtain ⟨ca, cb⟩ := reads_same HR.out.1 HR.out.2 hg1 k hkl
        rw [hab] at ca cb HCk ha hab2 hb
        simp only at ca cb ha hab2 hb
        rw [Nat.zero_add] at ca cb
        clear hab
        gi_wp2_with (refine ⟨trivial, ?_⟩; gi_at_call 60; refine (callsIn_wide.2 (nums_any _ _ _)).mono ?_; rintro e w' ⟨rfl, rfl⟩)
        obtain ⟨W2, hW2⟩ : ∃ W2, (wr.alloc (.cells #[.int .i64 a, .int .i64 b] 38)).alloc (.cells #[.int .i64 a, .int .i64 b] 38) = W2 := ⟨_, rfl⟩
        have z2 : W2.heap.size = wr.heap.size + 2 := by rw [← hW2]; simp
        have g2 : ∀ {o : Obj} {j : Nat}, wr.heap[j]? = some o → W2.heap[j]? = some o := fun {o j} hj => by
          have hjl := (Array.getElem?_eq_some_iff.1 hj).1
          rw [← hW2]; exact (Below.heap_alloc _ _ _ (by simp; omega)).trans ((Below.heap_alloc _ _ _ hjl).trans hj)
        have x2 : W2.heap[wr.heap.size + 1]? = some (.cells #[.int .i64 a, .int .i64 b] 38 (0, 0)) := by
          have := World.alloc_heap_new (wr.alloc (.cells #[.int .i64 a, .int .i64 b] 38)) (.cells #[.int .i64 a, .int .i64 b] 38)
          rw [World.size_alloc, hW2] at this; exact this
        have j2 : J (allL (ls.take k)) W2 := by rw [← hW2]; exact hJ.alloc _ (hJ.alloc _ hJr)
        have m2 : Marks h Ds W2 := fun D hD => ⟨(hM D hD).1, g2 (hM D hD).2⟩
        have hDl : ∀ D ∈ Ds, D < W2.heap.size := fun D hD => (Array.getElem?_eq_some_iff.1 (m2 D hD).2).1
        have hz : h < wr.heap.size := (Array.getElem?_eq_some_iff.1 hy1).1
        have y2 := g2 hy1
        have r2 := g2 hg1
        have cB0 : W2.cell? ⟨wr.heap.size + 1, 0, none⟩ = some (.int .i64 a) := by simp [World.cell?, x2]
        have cB1 : W2.cell? ⟨wr.heap.size + 1, 1, none⟩ = some (.int .i64 b) := by simp [World.cell?, x2]
        have hm : (((b + 1 - a).toNat : Nat) : Int) = b + 1 - a := by omega
        have HLe : Hid (∀ pre, pre.length < (b + 1 - a).toNat → (allL (ls.take k) ++ pre).length < (allL ls).length) := fun pre hp => by
          have q := (HCk.out.2 _ (List.prefix_refl _)).length_le
          rw [List.length_append, nums, upTo_len] at q
          rw [List.length_append]
          simp only at q
          omega
        rw [hW2]
        clear hW2 ca cb hM hy1 hg1 g2 hJr
        refine wpIn_rangeFunc_ownH rfl (by omega) (gf := 68) (lb := #[.pointer (some ⟨wr.heap.size + 1, 0, none⟩)]) rfl trivial (enters_of Tryd.func68 (by kernel_rfl) rfl)
          (num_stops 4 (by omega) (wr.heap.size + 1) a b (b + 1 - a).toNat hm ha hb W2 (by omega) cB0 cB1) kpB_t kpB_b (Below.refl _ _) (fun _ => rfl)
          (AI J h l g cur (allL (ls.take k)) (wr.heap.size + 1) a b Ds) (fun c pre W => c = .ret ∧ Jx (allL (ls.take k) ++ pre) W ∧ Marks h Ds W)
          (AI_own hJ (by omega) hDl) (fun c p X Y row hs hgr hr => ⟨hs.1, hJx _ X Y row hs.2.1 hgr (fun r e => ⟨by have := (hr r e).1; omega, (hr r e).2⟩), marks_own hs.2.2 hDl hgr hr⟩)
          ⟨by rw [List.append_nil]; exact j2, y2, r2, x2, m2⟩
          (fun x a' _ => a' = { tmps := #[.func (.yield l) #[] #[], .pointer (some ⟨B, 0, none⟩), .pointer (some ⟨h, 0, none⟩), undef, .pointer (some ⟨wr.heap.size, 0, none⟩), .int .i64 x, .slice (some ⟨g, 0, none⟩) N c, .int .i64 N, .int .i64 k, .bool true, .pointer (some ⟨g, k * 2, none⟩), .agg #[.int .i64 a, .int .i64 b], .agg #[.int .i64 a, .int .i64 b], .func (.func 68) #[] #[.pointer (some ⟨wr.heap.size + 1, 0, none⟩)], .int .i64 x, u15, u16, u17, u18, u19], defers := [] })
          (fun x a' _ _ _ _ hs _ _ => hs) ?assign ?body ?done ?stop
        case assign =>
          intro l1 pre x W K hi hK
          gi_wp2
          exact hK _ _ ((KeepsOthers.refl W).from _) ⟨(KeepsOthers.refl W).walks, fun j u hu => hu⟩ hi rfl
        case body =>
          as_aux_lemma =>
            rintro l1 pre x a' W hl1 hlr ⟨q1, q2, q3, q4, q5⟩ rfl hlen
            have cy : W.cell? ⟨h, 0, none⟩ = some (.func (.yield l) #[] #[]) := by simp [World.cell?, q2]
            obtain ⟨fn, tmps, assign, body, hy, hR⟩ := yield_wide (l1 := l1) (m' := 2) (hY _ x W q1 (HLe.out _ hlen))
            dsimp only [encU] at hy
            gi_wp2
            refine hR.mono ?_
            rintro e W3 (⟨rfl, hJ3, hk3⟩ | ⟨rfl, hJx3, hk3⟩)
            · gi_wp2
              refine ⟨⟨hk3.1.size, fun j o hj ho hc => hk3.1.same j o (by omega) ho hc⟩, ⟨hk3.2.1, fun j v hv => ?_⟩, by rw [← List.append_assoc]; exact hJ3, hk3.2.2 _ _ 67 (by simp) q2, hk3.2.2 _ _ 38 (by simp) q3, hk3.2.2 _ _ 38 (by simp) q4, fun D hD => ⟨(q5 D hD).1, hk3.1.same D _ (q5 D hD).1 (q5 D hD).2 rfl⟩⟩
              have q := hk3.2.2 _ _ 38 (by simp) q4
              simp only [World.cell?, q4, q] at hv ⊢
              exact hv
            · gi_wp2
              exact ⟨⟨hk3.size, fun j o hj ho hc => hk3.same j o (by omega) ho hc⟩, rfl, by rw [← List.append_assoc]; exact hJx3, fun D hD => ⟨(q5 D hD).1, hk3.same D _ (q5 D hD).1 (q5 D hD).2 rfl⟩⟩
        case done =>
          as_aux_lemma =>
            rintro D ys W hD hys ⟨q1, q2, q3, q4, q5⟩ hK
            subst hys
            have HQ : Hid (J (allL (ls.take (k + 1))) W) := by show J _ W; rw [HCk.out.1]; exact q1
            clear q1
            gi_wp2
            refine ⟨⟨k + 1, _, _, _, _, _, _, _, _, _, _, _, _, _, D :: Ds, by go_num, by omega, HQ.out, q2, q3, ?_, ?_⟩, by simp [intOf]; omega⟩
            · rw [List.nodup_cons]
              exact ⟨fun hm => by have := hDl D hm; omega, hnd⟩
            · intro E hE
              rw [List.mem_cons] at hE
              rcases hE with rfl | hE
              · exact ⟨by omega, hK⟩
              · exact q5 E hE
        case stop =>
          rintro D c pre W hD hpre ⟨rfl, q1, q2⟩ hK
          gi_wp2
          refine leaves_marks (fun W => Jx (allL (ls.take k) ++ pre) W) h ?_ ?_ (D :: Ds) W ?_ ?_ q1
          · intro W D ob o' q hD hob hoc
            exact hJx.putObj o' q hD hob hoc
          · intro W q
            exact ⟨.tuple #[], by simp [results, Tryd.f59, go_sem], ⟨_, rfl⟩, .inr ⟨_, ⟨HCk.out.2 _ hpre.1, by simp [hpre.2]⟩, q⟩⟩
          · rw [List.nodup_cons]
            exact ⟨fun hm => by have := hDl D hm; omega, hnd⟩
          · intro E hE
            rw [List.mem_cons] at hE
            rcases hE with rfl | hE
            · exact ⟨by omega, hK⟩
            · exact q2 E hE
    · as_aux_lemma =>
        have hlk : ls.take k = ls := List.take_of_length_le (by rw [HL.out]; omega)
        rw [hlk] at hJr
        obtain rfl : k = N := by omega
        have HJ : Hid (J (allL ls) wr) := hJr
        clear hJr
        gi_wp2
        refine leaves_marks (fun W => J (allL ls) W) h ?_ ?_ Ds wr hnd hM HJ.out
        · intro W D ob o' q hD hob hoc
          exact hJ.putObj o' q hD hob hoc
        · intro W q
          exact ⟨.tuple #[], by simp [results, Tryd.f59, go_sem], ⟨_, rfl⟩, .inl ⟨_, rfl, q⟩⟩
end Go.Proofs
