/-
  copiesTooMuch: a copy of the first place that is put back, or two of one place.
-/
import Derived.RangeFuncNested
import Derived.RangeFuncBound
import Derived.RangeFuncCalls
import Derived.RangeFuncLeaves
import Derived.Shelf.Abstract
import Derived.Shelf.RegionOpen
import Derived.WalkKit
import Derived.WalkSpells
import Derived.WalkLawsBesides
import Derived.OwnWalkIn
import Derived.TacticsInMore
import Derived.LoopNIn
import Derived.LoopIn
import Derived.BigQuiet
import Derived.RegionIn
import Derived.Deep.QuietTactic
import Derived.Deep.RegionWith
import Derived.Lib.OthersKept
import Derived.Maps.AppendAt
import Derived.Lib.SmallJoins
import Derived.Shelf.SlSortCmp.QuietGrown
import Derived.Test.YtkijbaofhodplaaDoorEh
import Derived.Test.YtkijbaofhodplaaDoorEf
namespace Go.Proofs
open Go.RowKit Go.Shelf

set_option maxRecDepth 100000
attribute [local go_sem] Oper.semAt_some
attribute [local go_sem ↓] Go.wp_at_zero Go.wp_at_succ
def cpW : List Bool → List Pc → Bool
  | _, [] => false
  | c, p :: l => if p.k ≠ 2 then cpW c l else if (c[p.y.toNat]?).getD false then true else cpW (c.set p.y.toNat true) l
/-- whether a rule puts back too many copies -/
def copB (r : Rl) : Bool := cpW (true :: List.replicate 7 false) (backP r)
def bools (l : List Bool) : List Value := l.map fun x => .bool x
theorem drop_pl {ps : List Pc} {k : Nat} (h : k < ps.length) : ps.drop k = ps[k] :: ps.drop (k + 1) := List.drop_eq_getElem_cons h
set_option maxHeartbeats 4000000 in
theorem copies_any (r : Rl) (av kv pv rv : Value) (w : World) (h : RR w av kv pv rv r) (hO : Ok r) : Calls Tryd.prog 52 #[.agg #[.bool r.bg, av, kv, pv, .bool r.en, rv, .int .i64 r.cu]] w fun e w' => e = .returned (.bool (copB r)) ∧ Below w.heap.size w w' := by
  have HPB : Hid (∀ wx, Calls Tryd.prog 74 #[.agg #[.bool r.bg, av, kv, pv, .bool r.en, rv, .int .i64 r.cu]] wx fun e w' => ∃ v, e = .returned v ∧ PR w v (backP r) ∧ Grown wx w') := fun wx => putBack_any r av kv pv rv wx w h hO.c0 hO.c1
  have HY : Hid (∀ p ∈ backP r, p.k = 2 → 0 ≤ p.y ∧ p.y < 8) := fun p hp hk => by
    have h1 := pc_ok (hO.pc p (List.mem_of_mem_drop hp))
    have h2 := hO.k8
    rcases h1 with ⟨h1, _⟩ | ⟨_, _, _, h3, h4⟩ | ⟨h1, _⟩
    · omega
    · omega
    · omega
  have HL : Hid ((backP r).length ≤ 16) := by have := hO.r16; simp [Hid, backP]; omega
  obtain ⟨a1, n1, c1, rfl⟩ := h.a.sl
  obtain ⟨a2, n2, c2, rfl⟩ := h.k.sl
  obtain ⟨a3, n3, c3, rfl⟩ := h.p.sl
  obtain ⟨a5, n5, c5, rfl⟩ := h.r.sl
  obtain ⟨R, hR⟩ : ∃ R, copB r = R := ⟨_, rfl⟩
  have HR : Hid (cpW (true :: List.replicate 7 false) ((backP r).drop 0) = R) := hR
  rw [hR]
  obtain ⟨xb, hxb⟩ : ∃ xb, r.bg = xb := ⟨_, rfl⟩
  obtain ⟨xe, hxe⟩ : ∃ xe, r.en = xe := ⟨_, rfl⟩
  obtain ⟨xc, hxc⟩ : ∃ xc, r.cu = xc := ⟨_, rfl⟩
  rw [hxb, hxe, hxc] at HPB ⊢
  clear hR hxb hxe hxc h hO
  go_enter Tryd.func52, Tryd.ntmps52
  go_wp2_with fail
  refine (HPB.out _).mono ?_
  rintro e w2 ⟨v, rfl, hPR, hG2⟩
  have HPR : Hid (PR w v (backP r)) := hPR
  have HC0 : Hid (w2.heap[w.heap.size + 1]? = some (.cells (bools (true :: List.replicate 7 false)).toArray 118 (0, 0)) ∧ Below w.heap.size w w2) := by
    refine ⟨?_, (((Grown.refl w).alloc _).alloc _).below.trans (hG2.below.mono (((Grown.refl w).alloc _).alloc _).size)⟩
    rw [hG2.below.block (w.heap.size + 1) (by simp)]
    have e := heap_alloc_new (w.alloc (.cells #[.bool xb, .slice a1 n1 c1, .slice a2 n2 c2, .slice a3 n3 c3, .bool xe, .slice a5 n5 c5, .int .i64 xc] 54)) (.cells #[.bool true, .bool false, .bool false, .bool false, .bool false, .bool false, .bool false, .bool false] 118)
    simpa [bools, List.replicate] using e
  obtain ⟨pa, pc, rfl, _, _⟩ := hPR
  obtain ⟨nb, hnb⟩ : ∃ nb, (backP r).length = nb := ⟨_, rfl⟩
  have HNB : Hid ((backP r).length = nb) := hnb
  rw [hnb] at HPR HL ⊢
  have hnbI : (nb : Int) ≤ 16 := by have := HL.out; omega
  clear hnb hG2 HPB
  go_wp2
  have HBS0 : Hid (w.heap.size ≤ w.heap.size + 1) := Nat.le_succ _
  generalize w.heap.size + 1 = B at HC0 HBS0 ⊢
  have HBS : Hid (w.heap.size ≤ B) := HBS0.out
  go_loopw [10] (fun vi wr => ∃ (k : Nat) (c : List Bool), vi = .int .i64 k ∧ k ≤ nb ∧ Hid (cpW c ((backP r).drop k) = R ∧ c.length = 8 ∧ wr.heap[B]? = some (.cells (bools c).toArray 118 (0, 0)) ∧ Below w.heap.size w wr)) (fun vi _ => nb - (intOf vi).toNat)
  case atStart => exact ⟨0, _, rfl, by omega, HR.out, by simp, HC0.out.1, HC0.out.2⟩
  case round =>
    obtain ⟨k, c, rfl, hk, H⟩ := hrel
    clear HC0 HR
    have hk0 : (0 : Int) ≤ (k : Int) := by omega
    by_cases hlt : k < nb
    · have hlt' : (k : Int) < (nb : Int) := by omega
      have hkb : k < (backP r).length := by rw [HNB.out]; exact hlt
      obtain ⟨hcp, hc8, hB, hbel⟩ := H.out
      clear H
      obtain ⟨a', c', e', _, hPr⟩ := HPR.out
      obtain ⟨pg, po, ha', hPd⟩ := hPr.resolve_left (fun e => by rw [e] at hkb; simp at hkb)
      injection e' with e1 e2 e3
      clear e2 e3
      rw [ha'] at e1
      subst e1
      have hPA := hPd k hkb
      rw [drop_pl hkb] at hcp
      have hy := HY.out _ (List.getElem_mem hkb)
      obtain ⟨p, hp⟩ : ∃ p, (backP r)[k] = p := ⟨_, rfl⟩
      rw [hp] at hPA hcp hy
      obtain ⟨tv, x0, x1, x2, x3, hRs⟩ := hPA
      have y0 := cell_below x0 hbel (Nat.le_refl _)
      have y1 := cell_below x1 hbel (Nat.le_refl _)
      have y2 := cell_below x2 hbel (Nat.le_refl _)
      have y3 := cell_below x3 hbel (Nat.le_refl _)
      obtain ⟨ta, tn, tc, rfl⟩ := hRs.sl
      have HBL : Hid (∀ ob, Below w.heap.size w (wr.alloc ob)) := fun ob => hbel.trans (((Grown.refl wr).alloc ob).below.mono hbel.size)
      have hBa : ∀ ob, (wr.alloc ob).heap[B]? = some (.cells (bools c).toArray 118 (0, 0)) := fun ob => (((Grown.refl wr).alloc ob).below.block B (Array.getElem?_eq_some_iff.1 hB).1).trans hB
      have HBA : Hid (∀ ob, (wr.alloc ob).heap[B]? = some (.cells (bools c).toArray 118 (0, 0))) := hBa
      unfold cpW at hcp
      obtain ⟨pk, hpk⟩ : ∃ pk, p.k = pk := ⟨_, rfl⟩
      obtain ⟨py, hpy⟩ : ∃ py, p.y = py := ⟨_, rfl⟩
      generalize p.u = pu at y1
      rw [hpk] at y0 hcp hy
      rw [hpy] at y2 hcp hy
      clear hPr ha' hPd hRs hp x0 x1 x2 x3 hpk hpy
      by_cases h2 : pk = 2
      · subst h2
        obtain ⟨q0, q8⟩ := hy rfl
        rw [if_neg (by simp)] at hcp
        obtain ⟨y, rfl⟩ : ∃ y : Nat, py = y := ⟨py.toNat, by omega⟩
        have hyc : y < c.length := by omega
        rw [show ((y : Nat) : Int).toNat = y by omega, List.getElem?_eq_getElem hyc] at hcp
        simp only [Option.getD_some] at hcp
        have cy : ∀ ob, (wr.alloc ob).cell? ⟨B, y, none⟩ = some (.bool c[y]) := fun ob => by rw [cell_of (hBa ob)]; simp [bools, hyc]
        have fy : ∀ ob, (wr.alloc ob).frozen? ⟨B, y, none⟩ = false := fun ob => free_of (hBa ob)
        obtain ⟨cb, hcb⟩ : ∃ cb, c[y] = cb := ⟨_, rfl⟩
        rw [hcb] at cy hcp
        cases cb with
        | true =>
          as_aux_lemma =>
            have HF : Hid (R = true) := by show R = true; simpa using hcp.symm
            clear hcp hB hBa HBA hcb hy hbel
            go_wp2
            go_ret
            have hrt := HF.out
            exact ⟨by first | rfl | (rw [hrt]; rfl), HBL.out _⟩
        | false =>
          as_aux_lemma =>
            have HF : Hid (cpW (c.set y true) ((backP r).drop (k + 1)) = R) := by show cpW _ _ = R; simpa using hcp
            clear hcp hB hBa hcb hy hbel
            go_wp2
            exact ⟨⟨k + 1, c.set y true, by go_num, by omega, HF.out, by simpa using hc8, by rw [set_heap (HBA.out _)]; simp [bools, List.map_set], (HBL.out _).setCell (p := ⟨B, y, none⟩) (by have := HBS.out; omega) _⟩, by simp [intOf]; omega⟩
      · as_aux_lemma =>
          have h2' : (pk != 2) = true := by simpa using h2
          have HF : Hid (cpW c ((backP r).drop (k + 1)) = R) := by rw [if_pos h2] at hcp; exact hcp
          clear hcp hB hBa hy hbel
          go_wp2
          exact ⟨⟨k + 1, c, by go_num, by omega, HF.out, hc8, HBA.out _, HBL.out _⟩, by simp [intOf]; omega⟩
    · as_aux_lemma =>
        have hge : ¬ (k : Int) < (nb : Int) := by omega
        obtain ⟨hcp, _, _, hbel⟩ := H.out
        rw [List.drop_eq_nil_of_le (by rw [HNB.out]; omega), cpW] at hcp
        have HF : Hid (R = false ∧ Below w.heap.size w wr) := ⟨hcp.symm, hbel⟩
        clear H hcp hbel
        go_wp2
        go_ret
        have hrt := HF.out.1
        exact ⟨by first | rfl | (rw [hrt]; rfl), HF.out.2⟩
end Go.Proofs
