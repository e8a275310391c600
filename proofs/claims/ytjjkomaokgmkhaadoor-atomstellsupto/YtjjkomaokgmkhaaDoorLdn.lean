/-
  An atom begins: the first.
-/
import Derived.RangeFuncNested
import Derived.RangeFuncBound
import Derived.RangeFuncCalls
import Derived.RangeFuncLeaves
import Derived.Shelf.Abstract
import Derived.Shelf.RegionOpen
import Derived.WalkKit
import Derived.WalkSpells
import Derived.WalkLawsBesides
import Derived.OwnWalkIn
import Derived.TacticsInMore
import Derived.LoopNIn
import Derived.LoopIn
import Derived.BigQuiet
import Derived.RegionIn
import Derived.Deep.QuietTactic
import Derived.Deep.RegionWith
import Derived.Lib.OthersKept
import Derived.Maps.AppendAt
import Derived.Lib.SmallJoins
import Derived.Shelf.SlSortCmp.QuietGrown
import Derived.Test.YtjjkomaokgmkhaaDoorLcn
namespace Go.Proofs
open Go.RowKit Go.Shelf

set_option maxRecDepth 100000
attribute [local go_sem] Oper.semAt_some
attribute [local go_sem ↓] Go.wp_at_zero Go.wp_at_succ

set_option maxHeartbeats 4000000 in
theorem begin_nil {w : World} {base B : Nat} {pv wv mv : Value} {sa ba : Option Addr} {sn sc bn bc : Nat} {n mh : Nat} {st bg : List Int} {sps : List (Value × List (Int × Int))} {wh : List Nat} (h : TT w base B (.slice sa sn sc) (.slice ba bn bc) pv wv mv n mh st bg sps wh) (at' atom : Int) (h0 : st = []) (hbn : bg = []) : Calls Tryd.prog 38 #[.pointer (some ⟨B, 0, none⟩), .int .i64 at', .int .i64 atom] w fun e w' => e = .returned (.tuple #[]) ∧ Hid (BQ w base B (.slice sa sn sc) (.slice ba bn bc) pv wv mv n mh st bg sps wh at' atom w') := by
  have hsn : sn = 0 := by obtain ⟨a, c, e⟩ := own_len h.s; injection e with _ e _; rw [e, h0]; rfl
  have hst : st.length = 0 := by rw [h0]; rfl
  have hbgl : bg.length = 0 := by rw [hbn]; rfl
  subst hsn
  have HT := Hid.mk' h
  have HE : Hid (sps.map Prod.snd = endA st bg at' (sps.map Prod.snd)) := by rw [h0]; rfl
  have c1 : w.cell? ⟨B, 1, none⟩ = some (.slice sa 0 sc) := heap_cellv h.blk rfl
  have c2 : w.cell? ⟨B, 2, none⟩ = some (.slice ba bn bc) := heap_cellv h.blk rfl
  have hbz : base ≤ w.heap.size := by have := h.tb; have := blk_lt h.blk; omega
  clear h h0 hbn
  go_enter Tryd.func38, Tryd.ntmps38
  go_wp2_with (at_builtin; go_must (first
    | (refine push_I2 rfl _ _ 23 rfl Tryd.underlying23 base (.slice sa 0 sc) st rfl (HT.out.grown ((Grown.refl _).alloc _)).s _ _ at' rfl (heap_alloc_new _ _) (by omega) (by simp; omega) ?_
       intro v1 W2 h1 h2 h3
       obtain ⟨e4, t1, _⟩ := (HT.out.grown ((Grown.refl _).alloc _)).st1 (fr_by h2) h1 h3
       have HA := Hid.mk' (And.intro h1 (And.intro h2 h3))
       have k1 : W2.cell? ⟨B, 1, none⟩ = some (.slice sa 0 sc) := heap_cellv e4 rfl
       have k1f : W2.frozen? ⟨B, 1, none⟩ = false := free_of e4
       have k2 : W2.cell? ⟨B, 2, none⟩ = some (.slice ba bn bc) := heap_cellv e4 rfl
       have HT1 := Hid.mk' t1
       have hbz2 : base ≤ W2.heap.size := by have := t1.tb; have := blk_lt e4; omega
       obtain ⟨va1, vc1, hv1⟩ := own_len h1
       obtain ⟨vn1, hvn1⟩ : ∃ vn1, (st ++ [at']).length = vn1 := ⟨_, rfl⟩
       rw [hvn1] at hv1
       subst hv1
       clear h1 h2 h3 e4 t1 hvn1 c1 c2)
    | (refine push_I2 rfl _ _ 23 rfl Tryd.underlying23 base (.slice ba bn bc) bg rfl (HT1.out.grown ((Grown.refl _).alloc _)).b _ _ atom rfl (by have := heap_alloc_new (W2.setCell ⟨B, 1, none⟩ (.slice va1 vn1 vc1)) (.cells #[.int .i64 atom] 3); simpa using this) (by omega) (by simp; omega) ?_
       intro v2 W4 h1 h2 h3
       obtain ⟨e4, t1, _⟩ := (HT1.out.grown ((Grown.refl _).alloc _)).bg1 (fr_by h2) h1 h3
       have HA2 := Hid.mk' (And.intro h1 (And.intro h2 h3))
       have k3 : W4.cell? ⟨B, 2, none⟩ = some (.slice ba bn bc) := heap_cellv e4 rfl
       have k3f : W4.frozen? ⟨B, 2, none⟩ = false := free_of e4
       obtain ⟨va2, vc2, hv2⟩ := own_len h1
       obtain ⟨vn2, hvn2⟩ : ∃ vn2, (bg ++ [atom]).length = vn2 := ⟨_, rfl⟩
       rw [hvn2] at hv2
       subst hv2
       clear h1 h2 h3 e4 t1 hvn2)))
  go_end0
  refine ⟨rfl, BQ.of HT.out (Fr.refl _ _) (fun k hk => .inl (.inr (.inr (.inr (.inr (.inr hk)))))) HE.out ((Grown.refl _).alloc _) HA.out.1 HA.out.2.1 HA.out.2.2 ((Grown.refl _).alloc _) HA2.out.1 HA2.out.2.1 HA2.out.2.2⟩

theorem last_at {l : List Int} {m : Nat} {x : Int} (h : l.length = m + 1) (hx : l.getLast? = some x) : l.getD m 0 = x := by
  rw [List.getLast?_eq_getElem?, h, Nat.add_sub_cancel] at hx
  rw [List.getD_eq_getElem?_getD, hx]; rfl
set_option maxHeartbeats 4000000 in
theorem begin_out {w : World} {base B : Nat} {pv wv mv : Value} {sa ba : Option Addr} {sn sc bn bc : Nat} {n mh : Nat} {st bg : List Int} {sps : List (Value × List (Int × Int))} {wh : List Nat} (h : TT w base B (.slice sa sn sc) (.slice ba bn bc) pv wv mv n mh st bg sps wh) (at' atom : Int) {m : Nat} (h0 : st.length = m + 1) (hbn : bg.length = m + 1) (hm : m ≤ 1000000000000) (hl : bg.getLast? = some (-1)) : Calls Tryd.prog 38 #[.pointer (some ⟨B, 0, none⟩), .int .i64 at', .int .i64 atom] w fun e w' => e = .returned (.tuple #[]) ∧ Hid (BQ w base B (.slice sa sn sc) (.slice ba bn bc) pv wv mv n mh st bg sps wh at' atom w') := by
  have hsn : sn = m + 1 := by obtain ⟨a, c, e⟩ := own_len h.s; injection e with _ e _; rw [e, h0]
  obtain ⟨bb, cur, hba, hbn2, _, hcu, _, _, _, hat⟩ := own_cells h.b (fun e => by rw [e] at hbn; simp at hbn)
  have hbn3 : bn = m + 1 := by omega
  subst hsn
  subst hbn3
  subst hba
  have HT := Hid.mk' h
  have HE : Hid (sps.map Prod.snd = endA st bg at' (sps.map Prod.snd)) := by
    show _ = _
    unfold endA
    rw [hl]
    cases e : st.getLast? with
    | none => rfl
    | some a0 => simp
  have c1 : w.cell? ⟨B, 1, none⟩ = some (.slice sa (m + 1) sc) := heap_cellv h.blk rfl
  have c2 : w.cell? ⟨B, 2, none⟩ = some (.slice (some ⟨bb, 0, none⟩) (m + 1) bc) := heap_cellv h.blk rfl
  have cb : w.cell? ⟨bb, m, none⟩ = some (.int .i64 (-1)) := heap_cellv hcu (by rw [hat m (by omega), last_at hbn hl])
  have hbz : base ≤ w.heap.size := by have := h.tb; have := blk_lt h.blk; omega
  have hmI : (m : Int) ≤ 1000000000000 := by omega
  have hst : st.length ≤ 1000000000001 := by omega
  have hbgl : bg.length ≤ 1000000000001 := by omega
  clear h h0 hbn hl hcu hat hbn2
  go_enter Tryd.func38, Tryd.ntmps38
  go_wp2_with (at_builtin; go_must (first
    | (refine push_I2 rfl _ _ 23 rfl Tryd.underlying23 base (.slice sa (m + 1) sc) st rfl (HT.out.grown ((Grown.refl _).alloc _)).s _ _ at' rfl (heap_alloc_new _ _) (by omega) (by simp; omega) ?_
       intro v1 W2 h1 h2 h3
       obtain ⟨e4, t1, _⟩ := (HT.out.grown ((Grown.refl _).alloc _)).st1 (fr_by h2) h1 h3
       have HA := Hid.mk' (And.intro h1 (And.intro h2 h3))
       have k1 : W2.cell? ⟨B, 1, none⟩ = some (.slice sa (m + 1) sc) := heap_cellv e4 rfl
       have k1f : W2.frozen? ⟨B, 1, none⟩ = false := free_of e4
       have k2 : W2.cell? ⟨B, 2, none⟩ = some (.slice (some ⟨bb, 0, none⟩) (m + 1) bc) := heap_cellv e4 rfl
       have HT1 := Hid.mk' t1
       have hbz2 : base ≤ W2.heap.size := by have := t1.tb; have := blk_lt e4; omega
       obtain ⟨va1, vc1, hv1⟩ := own_len h1
       obtain ⟨vn1, hvn1⟩ : ∃ vn1, (st ++ [at']).length = vn1 := ⟨_, rfl⟩
       rw [hvn1] at hv1
       subst hv1
       clear h1 h2 h3 e4 t1 hvn1 c1 c2 cb)
    | (refine push_I2 rfl _ _ 23 rfl Tryd.underlying23 base (.slice (some ⟨bb, 0, none⟩) (m + 1) bc) bg rfl (HT1.out.grown ((Grown.refl _).alloc _)).b _ _ atom rfl (by have := heap_alloc_new (W2.setCell ⟨B, 1, none⟩ (.slice va1 vn1 vc1)) (.cells #[.int .i64 atom] 3); simpa using this) (by omega) (by simp; omega) ?_
       intro v2 W4 h1 h2 h3
       obtain ⟨e4, t1, _⟩ := (HT1.out.grown ((Grown.refl _).alloc _)).bg1 (fr_by h2) h1 h3
       have HA2 := Hid.mk' (And.intro h1 (And.intro h2 h3))
       have k3 : W4.cell? ⟨B, 2, none⟩ = some (.slice (some ⟨bb, 0, none⟩) (m + 1) bc) := heap_cellv e4 rfl
       have k3f : W4.frozen? ⟨B, 2, none⟩ = false := free_of e4
       obtain ⟨va2, vc2, hv2⟩ := own_len h1
       obtain ⟨vn2, hvn2⟩ : ∃ vn2, (bg ++ [atom]).length = vn2 := ⟨_, rfl⟩
       rw [hvn2] at hv2
       subst hv2
       clear h1 h2 h3 e4 t1 hvn2)))
  go_end0
  refine ⟨rfl, BQ.of HT.out (Fr.refl _ _) (fun k hk => .inl (.inr (.inr (.inr (.inr (.inr hk)))))) HE.out ((Grown.refl _).alloc _) HA.out.1 HA.out.2.1 HA.out.2.2 ((Grown.refl _).alloc _) HA2.out.1 HA2.out.2.1 HA2.out.2.2⟩
end Go.Proofs
