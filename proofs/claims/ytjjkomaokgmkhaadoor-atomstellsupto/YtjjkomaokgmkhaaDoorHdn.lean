/-
  A row more in a tally; the rows while it is made.
-/
import Derived.RangeFuncNested
import Derived.RangeFuncBound
import Derived.RangeFuncCalls
import Derived.RangeFuncLeaves
import Derived.Shelf.Abstract
import Derived.Shelf.RegionOpen
import Derived.WalkKit
import Derived.WalkSpells
import Derived.WalkLawsBesides
import Derived.OwnWalkIn
import Derived.TacticsInMore
import Derived.LoopNIn
import Derived.LoopIn
import Derived.BigQuiet
import Derived.RegionIn
import Derived.Deep.QuietTactic
import Derived.Deep.RegionWith
import Derived.Lib.OthersKept
import Derived.Maps.AppendAt
import Derived.Lib.SmallJoins
import Derived.Shelf.SlSortCmp.QuietGrown
import Derived.Laws.OwnMore
import Derived.Laws.MakeOwn
import Derived.Test.YtjjkomaokgmkhaaDoorHcn
import Derived.Test.YtjjkomaokgmkhaaDoorAfn
namespace Go.Proofs
open Go.RowKit Go.Shelf

set_option maxRecDepth 100000
attribute [local go_sem] Oper.semAt_some
attribute [local go_sem ↓] Go.wp_at_zero Go.wp_at_succ

theorem make70 (n : Nat) (hn : n ≤ 8796093022208) (W : World) : (Instr.makeSlice 48 (.int .i64 n) (.int .i64 n)).run Tryd.prog W = .ok (.slice (some ⟨W.heap.size, 0, none⟩) n n) (W.alloc (rowO (List.replicate n 0))) := by
  obtain ⟨i0, hi, hz0, hz1, hz2⟩ := info_parts info70
  have h := run_make (P := Tryd.prog) W 48 70 i0 (.int .u64 0) Tryd.underlying48 hi hz0 .i64 .i64 (n : Int) (n : Int) (by omega) (Int.le_refl _) (by rw [hz2]; omega) (by omega)
  rw [h, show (n : Int).toNat = n by omega, hz1, Nat.mul_one]
  congr 3
  rw [← Array.toList_inj]
  show (madeCells #[.int .u64 0] n).toList = _
  rw [toList_madeCells_one]
  simp [uwv]
theorem TL.rv_ne {w : World} {base T : Nat} {pv rv uv : Value} {hi M : Nat} {ps : List (Nat × Nat)} {rows : List (Nat × List Nat)} {ts : List Int} (h : TL w base T pv rv uv hi M ps rows ts) {b : Nat} (hb : rv.ownBlock = some b) : b ≠ T ∧ b ≠ M ∧ pv.ownBlock ≠ some b ∧ uv.ownBlock ≠ some b ∧ ∀ x ∈ rows, x.1 ≠ b := by
  obtain ⟨cs, ho⟩ := own_obj h.rr hb
  obtain ⟨es, c, hm⟩ := h.mp.isMap
  refine ⟨fun e => ?_, fun e => ?_, own_ne h.rr h.pr (by decide) hb, own_ne h.rr h.tu (by decide) hb, fun x hx e => ?_⟩
  · rw [e, h.blk] at ho; injection ho with ho; injection ho with _ ho _; cases ho
  · rw [e, hm] at ho; cases ho
  · have := (h.rw x hx).2; rw [e, ho] at this; injection this with this; injection this with _ this _; cases this
/-- a row more -/
theorem TL.row {w W3 W4 : World} {base T : Nat} {pv rv uv : Value} {hi M : Nat} {ps : List (Nat × Nat)} {rows : List (Nat × List Nat)} {ts : List Int} (h : TL w base T pv rv uv hi M ps rows ts) (g3 : Grown w W3) {g : Nat} {z : List Nat} (hg : w.heap.size ≤ g) (hgz : W3.heap[g]? = some (rowO z)) (hz6 : W64 z)
    {v' : Value} (hap : W3.grownBy W4 rv.ownBlock) (hown : W4.ownsRow base 48 1 v' (rows.length + 1) (rows.map rowV ++ [rowV (g, z)])) :
    W4.heap[T]? = some (.cells #[pv, .int .i64 (hi : Int), rv, .map (some M), uv] 83 (0, 0)) ∧ TL (W4.setCell ⟨T, 2, none⟩ v') base T pv v' uv hi M ps (rows ++ [(g, z)]) ts ∧ Fr w (W4.setCell ⟨T, 2, none⟩ v') (fun k => k = T ∨ rv.ownBlock = some k) := by
  have f4 : Fr w W4 (fun k => rv.ownBlock = some k) := (fr_grown g3 _).trans (fr_by hap) fun _ _ e => e
  have hT := h.T_ne
  have hM := h.M_ne
  have hTM := h.neT
  have e4 : W4.heap[T]? = some (.cells #[pv, .int .i64 (hi : Int), rv, .map (some M), uv] 83 (0, 0)) := (f4.block _ (blk_lt h.blk) (fun e => hT.2.1 e)).trans h.blk
  have f5 : Fr w (W4.setCell ⟨T, 2, none⟩ v') (fun k => k = T ∨ rv.ownBlock = some k) := (f4.mono fun _ _ e => .inr e).trans (fr_set _ _ _ _) fun _ _ e => .inl e
  have hvT : v'.ownBlock ≠ some T := fun e => by obtain ⟨cs, ho⟩ := own_obj hown e; rw [e4] at ho; injection ho with ho; injection ho with _ ho _; cases ho
  have hTl := blk_lt h.blk
  have hgr : rv.ownBlock ≠ some g := fun e => by have := (World.ownsRow.lt h.rr g e).2; omega
  have hg4 : (W4.setCell ⟨T, 2, none⟩ v').heap[g]? = some (rowO z) := (Below.heap_setCell W4 ⟨T, 2, none⟩ v' g (by show g ≠ T; omega)).trans ((hap.block _ (blk_lt hgz) (fun e => hgr e.symm)).trans hgz)
  refine ⟨e4, ⟨h.tb, (set_heap e4).trans rfl, ?_, ?_, fun x hx => ?_, ?_, h.mb, ?_, ?_, fun x hx => ?_, h.p6⟩, f5⟩
  · exact own_fr h.pr f5 fun b hb e => e.elim (fun e => hT.1 (by rw [← e]; exact hb)) fun e => (h.pv_ne hb).2.2.1 e
  · rw [List.length_append, List.map_append]
    exact own_fr hown (fr_set _ _ _ _) fun b hb e => hvT (by rw [← (show b = T from e)]; exact hb)
  · rcases List.mem_append.1 hx with hx | hx
    · refine ⟨(h.rw x hx).1, (f5.block _ (blk_lt (h.rw x hx).2) fun e => ?_).trans (h.rw x hx).2⟩
      rcases e with e | e
      · exact hT.2.2.2 x hx e
      · exact (h.rv_ne e).2.2.2.2 x hx rfl
    · simp only [List.mem_cons, List.not_mem_nil, or_false] at hx
      subst hx
      exact ⟨by have := h.tb; show base ≤ g; omega, hg4⟩
  · rw [List.map_append, List.nodup_append]
    refine ⟨h.nd, by simp, ?_⟩
    intro a ha b hb e
    simp only [List.map_cons, List.map_nil, List.mem_cons, List.not_mem_nil, or_false] at hb
    obtain ⟨x, hx, rfl⟩ := List.mem_map.1 ha
    have := blk_lt (h.rw x hx).2
    omega
  · refine h.mp.kept fun o ho => (f5.block _ (blk_lt ho) fun e => ?_).trans ho
    rcases e with e | e
    · exact hTM e.symm
    · exact hM.2.1 e
  · exact own_fr h.tu f5 fun b hb e => e.elim (fun e => hT.2.2.1 (by rw [← e]; exact hb)) fun e => (h.rv_ne e).2.2.2.1 hb
  · rcases List.mem_append.1 hx with hx | hx
    · exact h.w6 x hx
    · simp only [List.mem_cons, List.not_mem_nil, or_false] at hx
      subst hx
      exact hz6
/-- one higher -/
theorem TL.up {w : World} {base T : Nat} {pv rv uv : Value} {hi M : Nat} {ps : List (Nat × Nat)} {rows : List (Nat × List Nat)} {ts : List Int} (h : TL w base T pv rv uv hi M ps rows ts) (n : Nat) : TL (w.setCell ⟨T, 1, none⟩ (.int .i64 (n : Int))) base T pv rv uv n M ps rows ts ∧ Fr w (w.setCell ⟨T, 1, none⟩ (.int .i64 (n : Int))) (fun k => k = T) := by
  have hT := h.T_ne
  have f5 := fr_set w T 1 (.int .i64 (n : Int))
  refine ⟨⟨h.tb, (set_heap h.blk).trans rfl, own_fr h.pr f5 fun b hb e => hT.1 (by rw [← (show b = T from e)]; exact hb), own_fr h.rr f5 fun b hb e => hT.2.1 (by rw [← (show b = T from e)]; exact hb), fun x hx => ⟨(h.rw x hx).1, (f5.block _ (blk_lt (h.rw x hx).2) (hT.2.2.2 x hx)).trans (h.rw x hx).2⟩, h.nd, h.mb, h.mp.kept fun o ho => (f5.block _ (blk_lt ho) (Ne.symm h.neT)).trans ho, own_fr h.tu f5 fun b hb e => hT.2.2.1 (by rw [← (show b = T from e)]; exact hb), h.w6, h.p6⟩, f5⟩
/-- the rows while a tally is made -/
structure Zr (L W : Nat) (rows : List (Nat × List Nat)) : Prop where
  z : ∀ x ∈ rows, x.2 = List.replicate x.2.length 0
  e : rows = [] → W = L
  l : ∀ x, rows.getLast? = some x → x.2.length = 2 * W
  f : ∀ x, rows.head? = some x → L ≤ x.2.length
  c : ∀ k x y, rows[k]? = some x → rows[k + 1]? = some y → x.2.length % 2 = 0 ∧ x.2.length ≤ 2 * y.2.length
  b : W + rows.length ≤ L + 1
  p : 1 ≤ W
  u : ∀ x ∈ rows, x.2.length ≤ L + 1
  wl : W ≤ L
theorem getLast_at {α : Type} {l : List α} {k : Nat} {x : α} (h : l[k]? = some x) (hk : k + 1 = l.length) : l.getLast? = some x := by
  rw [List.getLast?_eq_getElem?, show l.length - 1 = k by omega, h]
theorem Zr.step {L W : Nat} {rows : List (Nat × List Nat)} (h : Zr L W rows) (hw : rows = [] ∨ 1 < W) (g : Nat) : Zr L ((W + 1) / 2) (rows ++ [(g, List.replicate (2 * ((W + 1) / 2)) 0)]) := by
  have hp := h.p
  have hwl := h.wl
  refine ⟨fun x hx => ?_, fun e => by simp at e, fun x hx => ?_, fun x hx => ?_, fun k x y hx hy => ?_, ?_, by omega, fun x hx => ?_, by omega⟩
  · rcases List.mem_append.1 hx with hx | hx
    · exact h.z x hx
    · simp only [List.mem_cons, List.not_mem_nil, or_false] at hx
      subst hx
      simp
  · simp at hx
    subst hx
    simp
  · cases rows with
    | nil =>
      simp at hx
      subst hx
      have := h.e rfl
      simp
      omega
    | cons a t => exact h.f x (by simpa using hx)
  · by_cases hk : k + 1 < rows.length
    · rw [List.getElem?_append_left (by omega)] at hx
      rw [List.getElem?_append_left hk] at hy
      exact h.c k x y hx hy
    · have hlt := (List.getElem?_eq_some_iff.1 hy).1
      simp at hlt
      have hk2 : k + 1 = rows.length := by omega
      rw [List.getElem?_append_left (by omega)] at hx
      rw [List.getElem?_append_right (by omega), hk2] at hy
      simp at hy
      subst hy
      have := h.l x (getLast_at hx hk2)
      simp
      omega
  · simp
    have := h.b
    rcases hw with hw | hw
    · have := h.e hw
      subst hw
      simp
      omega
    · omega
  · rcases List.mem_append.1 hx with hx | hx
    · exact h.u x hx
    · simp only [List.mem_cons, List.not_mem_nil, or_false] at hx
      subst hx
      simp
      omega
theorem Zr.fin {L : Nat} {rows : List (Nat × List Nat)} (h : Zr L 1 rows) (hne : rows ≠ []) (g n : Nat) (hn : n ≤ 64 * L) :
    ∃ L0 up, (rows ++ [(g, List.replicate 1 0)]).map Prod.snd = List.replicate L0 0 :: up ∧ up.length = rows.length ∧ (∀ r ∈ up, r = List.replicate r.length 0) ∧ topOf up = 0 ∧ Fit (up.map List.length) L0 n ∧ ∀ x ∈ rows ++ [(g, List.replicate 1 0)], x.2.length ≤ L + 1 := by
  have hub : ∀ x ∈ rows ++ [(g, List.replicate 1 0)], x.2.length ≤ L + 1 := fun x hx => by
    rcases List.mem_append.1 hx with hx | hx
    · exact h.u x hx
    · simp only [List.mem_cons, List.not_mem_nil, or_false] at hx
      subst hx
      simp
  have hc : ∀ k x y, (rows ++ [(g, List.replicate 1 0)])[k]? = some x → (rows ++ [(g, List.replicate 1 0)])[k + 1]? = some y → x.2.length % 2 = 0 ∧ x.2.length ≤ 2 * y.2.length := by
    intro k x y hx hy
    by_cases hk : k + 1 < rows.length
    · rw [List.getElem?_append_left (by omega)] at hx
      rw [List.getElem?_append_left hk] at hy
      exact h.c k x y hx hy
    · have hlt := (List.getElem?_eq_some_iff.1 hy).1
      simp at hlt
      have hk2 : k + 1 = rows.length := by omega
      rw [List.getElem?_append_left (by omega)] at hx
      rw [List.getElem?_append_right (by omega), hk2] at hy
      simp at hy
      subst hy
      have := h.l x (getLast_at hx hk2)
      simp
      omega
  cases rows with
  | nil => exact absurd rfl hne
  | cons a t =>
    have ha := h.z a (by simp)
    have hf := h.f a rfl
    obtain ⟨up, hup⟩ : ∃ up, up = (t ++ [(g, List.replicate 1 0)]).map Prod.snd := ⟨_, rfl⟩
    have hall : (a :: t ++ [(g, List.replicate 1 0)]).map Prod.snd = a.2 :: up := by rw [hup]; rfl
    have hlen : up.length = t.length + 1 := by rw [hup]; simp
    have hz : ∀ r ∈ up, r = List.replicate r.length 0 := fun r hr => by
      rw [hup] at hr
      obtain ⟨x, hx, rfl⟩ := List.mem_map.1 hr
      rcases List.mem_append.1 hx with hx | hx
      · exact h.z x (by simp [hx])
      · simp only [List.mem_cons, List.not_mem_nil, or_false] at hx
        subst hx
        simp
    have htop : topOf up = 0 := by rw [hup]; simp [topOf]
    have hat : ∀ k, ((a.2 :: up)[k]?) = ((a :: t ++ [(g, List.replicate 1 0)])[k]?).map Prod.snd := fun k => by rw [← hall, List.getElem?_map]
    have hchn : Chn [(0, 0)] (List.replicate a.2.length 0) up := by
      refine Chn.zeros rfl (fun x hx i => ?_) fun k hk => ?_
      · have : x = List.replicate x.length 0 := by
          rcases List.mem_cons.1 hx with rfl | hx
          · simp
          · exact hz x hx
        rw [this, List.getD_eq_getElem?_getD, List.getElem?_replicate]
        split <;> rfl
      · rw [← ha]
        have h1 : k < (a :: t ++ [(g, List.replicate 1 0)]).length := by simp; omega
        have h2 : k + 1 < (a :: t ++ [(g, List.replicate 1 0)]).length := by simp; omega
        have := hc k _ _ (List.getElem?_eq_getElem h1) (List.getElem?_eq_getElem h2)
        have e1 : (a.2 :: up).getD k [] = ((a :: t ++ [(g, List.replicate 1 0)])[k]).2 := by
          rw [List.getD_eq_getElem?_getD, hat, List.getElem?_eq_getElem h1]; rfl
        have e2 : up.getD k [] = ((a :: t ++ [(g, List.replicate 1 0)])[k + 1]).2 := by
          rw [show up.getD k [] = (a.2 :: up).getD (k + 1) [] from rfl, List.getD_eq_getElem?_getD, hat, List.getElem?_eq_getElem h2]; rfl
        rw [e1, e2]
        exact this
    refine ⟨a.2.length, up, by rw [hall, ← ha], by rw [hlen]; rfl, hz, htop, ⟨⟨by rw [hup]; simp, ?_⟩, by omega, up, rfl, hchn, htop⟩, hub⟩
    rw [hup]; simp
end Go.Proofs
