/-
  ScanRow.
-/
import Derived.Shelf.Abstract
import Derived.Shelf.RegionOpen
import Derived.WalkKit
import Derived.WalkSpells
import Derived.WalkLawsBesides
import Derived.BigQuiet
import Derived.Deep.QuietTactic
import Derived.Deep.LoopGhost
import Derived.Lib.OthersKept
import Derived.ScopeJumps
import Derived.WalkMore
import Derived.Maps.AppendAt
import Derived.Lib.SmallJoins
import Derived.Test.YthjjkenmlkekbaaDoorLp
import Derived.Test.YthjjkenmlkekbaaDoorRj
namespace Go.Proofs
open Go.RowKit Go.Shelf

set_option maxRecDepth 100000
attribute [local go_sem] Oper.semAt_some

/-- things, as the law reads them -/
def RTh (w : World) (v : Value) (l : List (Int × Int × ByteArray)) : Prop := ∃ (A : Option Addr) (c : Nat), v = .slice A l.length c ∧ (l = [] ∨ ∃ g o, A = some ⟨g, o, none⟩ ∧ ∀ j x, l[j]? = some x → w.cell? ⟨g, o + j * 3, none⟩ = some (.int .i64 x.1) ∧ w.cell? ⟨g, o + j * 3 + 1, none⟩ = some (.int .i64 x.2.1) ∧ w.cell? ⟨g, o + j * 3 + 2, none⟩ = some (.string x.2.2))
theorem OwnS.kept {w w' : World} {row : Option Nat} {base : Nat} {v : Value} {l : List UInt8} (h : OwnS w base v l) (hg : w.grownBy w' row) (hne : v.ownBlock ≠ row) : OwnS w' base v l := by
  obtain ⟨g, cap, cur, fz, rfl, h1, h2, h3⟩ := h
  exact ⟨g, cap, cur, fz, rfl, h1, (hg.block g (Array.getElem?_eq_some_iff.1 h2).1 (by simpa [Value.ownBlock] using fun e => hne (by simp [Value.ownBlock, e]))).trans h2, h3⟩
theorem apart {w : World} {b b' : Nat} {v u : Value} {l : List UInt8} {m : List Tok} (h : OwnS w b v l) (h2 : OwnT w b' u m) : v.ownBlock ≠ u.ownBlock := by
  obtain ⟨g, cap, cur, fz, rfl, h1, hg, h3⟩ := h
  rcases h2.2 with ⟨rfl, _⟩ | ⟨g', cap', cur', rfl, _, hg', _⟩
  · simp [Value.ownBlock]
  · intro e
    simp [Value.ownBlock] at e
    subst e
    rw [hg] at hg'
    injection hg' with e
    injection e with e1 e2
    exact absurd e2 (by decide)
theorem formS {w : World} {b : Nat} {v : Value} {l : List UInt8} (h : OwnS w b v l) : ∃ g c, v = .slice (some ⟨g, 0, none⟩) l.length c := by
  obtain ⟨g, cap, cur, fz, rfl, _⟩ := h
  exact ⟨g, cap, rfl⟩
theorem text_len (l : List Item) (h : ∀ x ∈ l, x.ok) : l.length * 2 ≤ (textL l).length := by
  induction l with
  | nil => simp
  | cons x l ih =>
    have := ih (fun y hy => h y (by simp [hy]))
    have h1 := (h x (by simp)).1.1
    have h2 := (gap_facts (h x (by simp)).2).2.2.1
    simp only [textL, List.flatMap_cons, itemL, List.length_append, List.length_cons, Array.length_toList] at this ⊢
    have e1 : x.s.data.size = x.s.size := rfl
    have e2 : x.g.data.size = x.g.size := rfl
    omega
theorem toks_snoc : ∀ (l : List Item) (p : Nat) (x : Item), toksL p (l ++ [x]) = toksL p l ++ [⟨x.k, (p + (textL l).length : Nat), x.s.size, x.u, x.t, x.n⟩]
  | [], p, x => by simp [toksL, textL]
  | y :: l, p, x => by
    have e1 : y.s.data.size = y.s.size := rfl
    have e2 : y.g.data.size = y.g.size := rfl
    simp only [List.cons_append, toksL, toks_snoc l, textL, List.flatMap_cons, itemL, List.length_append, Array.length_toList, e1, e2]
    congr 4
    omega
theorem toks_len : ∀ (l : List Item) (p : Nat), (toksL p l).length = l.length
  | [], p => rfl
  | y :: l, p => by simp [toksL, toks_len l]
theorem convS {w : World} {base g M c : Nat} {L : List UInt8} (h : OwnS w base (.slice (some ⟨g, 0, none⟩) M c) L) (hM : L.length = M) : (convert 38 9 (.slice (some ⟨g, 0, none⟩) M c)).run Tryd.prog w = .ok (.string ⟨L.toArray⟩) w := by
  have := run_convert_bytes_back (P := Tryd.prog) w 38 9 5 ⟨g, 0, none⟩ c L Tryd.underlying38 Tryd.underlying5 Tryd.underlying9 (fun j hj => h.cells j _ (by simp [fb, hj]))
  rwa [hM] at this
theorem row_run (g0 : ByteArray) (its : List Item) (hg : g0 ∈ gaps6) (hok : ∀ x ∈ its, x.ok) (hz : g0.size + (textL its).length ≤ 32768) : (⟨(g0.data.toList ++ textL its).toArray⟩ : ByteArray).size ≤ 32768 ∧ Run ⟨(g0.data.toList ++ textL its).toArray⟩ 0 true (toksL g0.size its) 0 0 := by
  have hz2 : (⟨(g0.data.toList ++ textL its).toArray⟩ : ByteArray).size = g0.size + (textL its).length := by
    show (g0.data.toList ++ textL its).toArray.size = _
    rw [List.size_toArray, List.length_append]
    rfl
  refine ⟨by omega, ?_⟩
  have := run_row ⟨(g0.data.toList ++ textL its).toArray⟩ (by unfold maxLen; omega) its g0 0 true hok hg (by simp) (by omega)
  rwa [Nat.zero_add] at this
set_option maxHeartbeats 4000000 in
theorem rowLaw (l : List (Int × Int × ByteArray)) (gl : List Int) (v1 v2 : Value) (w : World) (hT : Tab w) (h1 : RTh w v1 l) (h2 : RI w v2 gl) (hl : l.length ≤ 2305843009213693952) (hgl : gl.length ≤ 4611686018427387904) (hsz : ∀ x ∈ l, x.2.2.size ≤ 9223372036854775807) :
    Calls Tryd.prog 4 #[v1, v2] w fun e w' => e = .returned (.bool true) ∧ Below w.heap.size w w' := by
  have HT : Hid (Tab w) := hT
  have H2 : Hid (RI w v2 gl) := h2
  obtain ⟨A1, c1, rfl, hrd⟩ := h1
  have HRD : Hid (l = [] ∨ ∃ g o, A1 = some ⟨g, o, none⟩ ∧ ∀ j x, l[j]? = some x → w.cell? ⟨g, o + j * 3, none⟩ = some (.int .i64 x.1) ∧ w.cell? ⟨g, o + j * 3 + 1, none⟩ = some (.int .i64 x.2.1) ∧ w.cell? ⟨g, o + j * 3 + 2, none⟩ = some (.string x.2.2)) := hrd
  have HSZ : Hid (∀ x ∈ l, x.2.2.size ≤ 9223372036854775807) := hsz
  obtain ⟨N, hN⟩ : ∃ N, l.length = N := ⟨_, rfl⟩
  have HN : Hid (l.length = N) := hN
  rw [hN] at hl ⊢
  obtain ⟨j0, hj0, HG0⟩ := between_any gl 0 hgl (by omega)
  have hg0 : gaps6[j0] ∈ gaps6 := List.getElem_mem _
  generalize gaps6[j0] = g0 at HG0 hg0
  have HG : Hid (∀ (w : World) (v : Value), RI w v gl → Calls Tryd.prog 14 #[v, .int .i64 (0 : Nat)] w fun e w' => e = .returned (.string g0) ∧ Below w.heap.size w w') := HG0
  have Hg0 : Hid (g0 ∈ gaps6) := hg0
  have hgz := (gap_facts hg0).2.2
  clear hT h2 hrd hsz hN HG0 hg0
  go_enter Tryd.func4, Tryd.ntmps4
  go_wp2_with fail
  refine (shown_any _ HT.out).mono ?_
  rintro e w1 ⟨rfl, hb⟩
  have HB : Hid (Below w.heap.size w w1) := hb
  clear hb
  go_wp2_with fail
  refine (HG.out _ _ (H2.out.below HB.out (Nat.le_refl _))).mono ?_
  rintro e w2 ⟨rfl, hb⟩
  replace HB : Hid (Below w.heap.size w w2) := HB.out.trans (hb.mono HB.out.size)
  clear hb
  obtain ⟨vt, wt, hrun, hOS, hbt⟩ := OwnS.start g0 w2 w.heap.size HB.out.size (by unfold maxLen; omega)
  have ez : g0.data.toList.length = g0.size := by simp
  obtain ⟨gt, ct, rfl⟩ := formS hOS
  rw [ez] at hrun hOS
  have HOS : Hid (OwnS wt w.heap.size (.slice (some ⟨gt, 0, none⟩) g0.size ct) g0.data.toList) := hOS
  replace HB : Hid (Below w.heap.size w wt) := HB.out.trans (hbt.mono HB.out.size)
  clear hbt hOS
  go_wp2_with fail
  clear hrun
  go_loopw [5, 6, 20] (fun vt vw vi wr => ∃ (i : Nat) (its : List Item) (M g c : Nat) (A : Option Addr) (c' : Nat), vi = .int .i64 i ∧ vt = .slice (some ⟨g, 0, none⟩) M c ∧ vw = .slice A i c' ∧ i ≤ N ∧ M ≤ 32740 ∧ Hid (its.length = i ∧ M = g0.size + (textL its).length ∧ ∀ x ∈ its, x.ok) ∧ Hid (OwnS wr w.heap.size (.slice (some ⟨g, 0, none⟩) M c) (g0.data.toList ++ textL its)) ∧ Hid (OwnT wr w.heap.size (.slice A i c') (toksL g0.size its)) ∧ Hid (Below w.heap.size w wr)) (fun _ _ vi _ => N - (intOf vi).toNat)
  case atStart => exact ⟨0, [], g0.size, gt, ct, none, 0, rfl, rfl, rfl, by omega, by omega, ⟨rfl, rfl, by simp⟩, by show OwnS _ _ _ _; simpa [textL] using HOS.out, OwnT.nil _ _, HB.out⟩
  case round =>
    obtain ⟨i, its, M, g, c, A, c', rfl, rfl, rfl, hiN, hM40, HF, HS, HW, HBr⟩ := hrel
    clear HOS HB
    by_cases hlt : i < N
    · have hlti : (i : Int) < (N : Int) := by omega
      obtain ⟨⟨kd, nn, sx⟩, hx⟩ : ∃ x, l[i]? = some x := ⟨_, List.getElem?_eq_getElem (by rw [HN.out]; exact hlt)⟩
      have hl0 : l ≠ [] := by rintro rfl; simp at hx
      obtain ⟨ga, o, rfl, hrd⟩ := HRD.out.resolve_left hl0
      obtain ⟨d0, d1, d2⟩ := hrd i _ hx
      have hga : ga < w.heap.size := by
        obtain ⟨ob, ho, _⟩ := cells_of_cell d0
        exact (Array.getElem?_eq_some_iff.1 ho).1
      have e0 : wr.cell? ⟨ga, o + i * 3, none⟩ = some (.int .i64 kd) := (HBr.out.cell (p := ⟨ga, o + i * 3, none⟩) hga).trans d0
      have e1 : wr.cell? ⟨ga, o + i * 3 + 1, none⟩ = some (.int .i64 nn) := (HBr.out.cell (p := ⟨ga, o + i * 3 + 1, none⟩) hga).trans d1
      have e2 : wr.cell? ⟨ga, o + i * 3 + 2, none⟩ = some (.string sx) := (HBr.out.cell (p := ⟨ga, o + i * 3 + 2, none⟩) hga).trans d2
      obtain ⟨r, k, u, t, n, hw15, htold⟩ := told_thing kd nn sx (HSZ.out _ (List.mem_of_getElem? hx))
      obtain ⟨j1, hj1, hG1⟩ := between_any gl (i + 1) hgl (by omega)
      have hg1 : gaps6[j1] ∈ gaps6 := List.getElem_mem _
      generalize gaps6[j1] = g1 at hG1 hg1
      have HG1 : Hid (∀ (w : World) (v : Value), RI w v gl → Calls Tryd.prog 14 #[v, .int .i64 ((i : Int) + 1)] w fun e w' => e = .returned (.string g1) ∧ Below w.heap.size w w') := fun w v h => by simpa using hG1 w v h
      have HW15 : Hid (Writes15 (thing kd nn sx) r k u t n) := hw15
      have HTD : Hid (Told r k u t n) := htold
      have Hg1 : Hid (g1 ∈ gaps6) := hg1
      have hr0 : 0 < r.size := htold.1
      have hr36 : r.size ≤ 36 := htold.2.1
      have hg11 := (gap_facts hg1).2.2
      have he : r.toList.isEmpty = false := empty_no hr0
      clear hrd d0 d1 d2 hw15 htold hG1 hg1 hx hl0 HRD
      go_wp2_with fail
      refine (HW15.out _ (HT.out.below (HBr.out.alloc HBr.out.size _) HT.out.pos)).mono ?_
      rintro e w2 ⟨rfl, hb⟩
      have hb0 : Below wr.heap.size wr w2 := ((Below.refl _ wr).alloc (Nat.le_refl _) _).trans (hb.mono (by rw [World.size_alloc]; omega))
      have HS2 : Hid (OwnS w2 w.heap.size (.slice (some ⟨g, 0, none⟩) M c) (g0.data.toList ++ textL its)) := HS.out.below hb0 (Nat.le_refl _)
      have HW2 : Hid (OwnT w2 w.heap.size (.slice A i c') (toksL g0.size its)) := HW.out.below hb0 (Nat.le_refl _)
      have HB2 : Hid (Below w.heap.size w w2) := HBr.out.trans (hb0.mono HBr.out.size)
      clear hb hb0 e0 e1 e2 HW15
      by_cases hov : 32728 < M + r.size
      · have hovi : (32728 : Int) < (M : Int) + (r.size : Int) := by omega
        have hi0 : ((i : Int) == 0) = false := by
          have : i ≠ 0 := by
            intro h
            have hf := HF.out
            have : its = [] := List.eq_nil_of_length_eq_zero (by omega)
            rw [this] at hf
            simp [textL] at hf
            omega
          simp; omega
        have hb1 : Below w2.heap.size w2 (w2.alloc (.cells #[.int .i64 k, .int .i64 0, .int .i64 0, .int .i64 u, .string t, .int .i64 n] 34)) := (Below.refl _ w2).alloc (Nat.le_refl _) _
        replace HS : Hid (OwnS (w2.alloc (.cells #[.int .i64 k, .int .i64 0, .int .i64 0, .int .i64 u, .string t, .int .i64 n] 34)) w.heap.size (.slice (some ⟨g, 0, none⟩) M c) (g0.data.toList ++ textL its)) := HS2.out.below hb1 (Nat.le_refl _)
        replace HW : Hid (OwnT (w2.alloc (.cells #[.int .i64 k, .int .i64 0, .int .i64 0, .int .i64 u, .string t, .int .i64 n] 34)) w.heap.size (.slice A i c') (toksL g0.size its)) := HW2.out.below hb1 (Nat.le_refl _)
        replace HBr : Hid (Below w.heap.size w (w2.alloc (.cells #[.int .i64 k, .int .i64 0, .int .i64 0, .int .i64 u, .string t, .int .i64 n] 34))) := HB2.out.trans (hb1.mono HB2.out.size)
        clear hb1 HS2 HW2 HB2 hov HG1 HTD Hg1
        obtain ⟨hlen, hM, hok⟩ := HF.out
        have hrr := row_run g0 its Hg0.out hok (by omega)
        have hcv := convS HS.out (by rw [List.length_append, hM]; rfl)
        have HRR : Hid ((⟨(g0.data.toList ++ textL its).toArray⟩ : ByteArray).size ≤ 32768 ∧ Run ⟨(g0.data.toList ++ textL its).toArray⟩ 0 true (toksL g0.size its) 0 0) := hrr
        have HTL : Hid ((toksL g0.size its).length ≤ 9223372036854775807) := by show _ ≤ _; rw [toks_len]; omega
        generalize (⟨(g0.data.toList ++ textL its).toArray⟩ : ByteArray) = R at hcv HRR
        generalize toksL g0.size its = TK at HRR HW HTL
        clear hlen hM hok hrr HF HS
        go_wp2_with fail
        refine (scan_run R TK 0 0 HRR.out.1 HRR.out.2 _).mono ?_
        rintro e w4 ⟨v, rfl, hO, hb⟩
        rw [if_pos rfl] at hO
        have HO : Hid (RT w4 v TK) := hO.rt
        have HO2 := (HW.out.below hb (Nat.le_refl _)).rt
        have HB4 : Hid (Below w.heap.size w w4) := HBr.out.trans (hb.mono HBr.out.size)
        clear hO hb
        go_wp2_with fail
        refine (same_any v _ TK _ HTL.out (HO.out.below ((Below.refl _ w4).alloc (Nat.le_refl _) (.cells #[.int .i64 0, .int .i64 0] 29)) (Nat.le_refl _)) (HO2.below ((Below.refl _ w4).alloc (Nat.le_refl _) (.cells #[.int .i64 0, .int .i64 0] 29)) (Nat.le_refl _))).mono ?_
        rintro e w5 ⟨rfl, hg⟩
        have HB5 : Hid (Below w.heap.size w w5) := (HB4.out.alloc HB4.out.size _).trans (hg.below.mono (by rw [World.size_alloc]; have := HB4.out.size; omega))
        clear hg
        go_wp2
        go_ret
        exact ⟨rfl, HB5.out⟩
      · have hovi : decide ((32728 : Int) < (M : Int) + (r.size : Int)) = false := by simp; omega
        have hbW := below2 w2 (.cells #[.int .i64 k, .int .i64 M, .int .i64 r.size, .int .i64 u, .string t, .int .i64 n] 34) (.cells #[.int .i64 k, .int .i64 M, .int .i64 r.size, .int .i64 u, .string t, .int .i64 n] 34)
        have HSW : Hid (OwnS ((w2.alloc (.cells #[.int .i64 k, .int .i64 M, .int .i64 r.size, .int .i64 u, .string t, .int .i64 n] 34)).alloc (.cells #[.int .i64 k, .int .i64 M, .int .i64 r.size, .int .i64 u, .string t, .int .i64 n] 34)) w.heap.size (.slice (some ⟨g, 0, none⟩) M c) (g0.data.toList ++ textL its)) := HS2.out.below hbW (Nat.le_refl _)
        have HWW : Hid (OwnT ((w2.alloc (.cells #[.int .i64 k, .int .i64 M, .int .i64 r.size, .int .i64 u, .string t, .int .i64 n] 34)).alloc (.cells #[.int .i64 k, .int .i64 M, .int .i64 r.size, .int .i64 u, .string t, .int .i64 n] 34)) w.heap.size (.slice A i c') (toksL g0.size its)) := HW2.out.below hbW (Nat.le_refl _)
        have HBW : Hid (Below w.heap.size w ((w2.alloc (.cells #[.int .i64 k, .int .i64 M, .int .i64 r.size, .int .i64 u, .string t, .int .i64 n] 34)).alloc (.cells #[.int .i64 k, .int .i64 M, .int .i64 r.size, .int .i64 u, .string t, .int .i64 n] 34))) := HB2.out.trans (hbW.mono HB2.out.size)
        have HTB : Hid (TB ((w2.alloc (.cells #[.int .i64 k, .int .i64 M, .int .i64 r.size, .int .i64 u, .string t, .int .i64 n] 34)).alloc (.cells #[.int .i64 k, .int .i64 M, .int .i64 r.size, .int .i64 u, .string t, .int .i64 n] 34)) (w2.heap.size + 1) k M r.size u t n) := TB.new2 w2 (.cells #[.int .i64 k, .int .i64 M, .int .i64 r.size, .int .i64 u, .string t, .int .i64 n] 34) k M r.size u t n
        have htl := toks_len its g0.size
        have hM2 : (g0.data.toList ++ textL its).length = M := by
          rw [List.length_append, HF.out.2.1]; rfl
        have hM3 : (g0.data.toList ++ textL its ++ r.data.toList).length = M + r.size := by
          rw [List.length_append, hM2]; rfl
        have hil : its.length = i := HF.out.1
        have HM : Hid ((g0.data.toList ++ textL its).length = M ∧ (g0.data.toList ++ textL its ++ r.data.toList).length = M + r.size ∧ (toksL g0.size its).length = i ∧ i ≤ 32740) := ⟨hM2, hM3, by omega, by
          have := text_len its HF.out.2.2
          have := HF.out.2.1
          omega⟩
        clear hbW htl hM2 hM3 hil HS2 HW2
        go_wp2_with (first
          | (go_at_call 14; refine (HG1.out _ _ (H2.out.below HB4.out (Nat.le_refl _))).mono ?_; rintro e w5 ⟨rfl, hb5⟩; have HS5 : Hid (OwnS w5 w.heap.size v4 (g0.data.toList ++ textL its ++ r.data.toList)) := HS4.out.below hb5 (Nat.le_refl _); have HO5 : Hid (OwnT w5 w.heap.size v3 (toksL g0.size its ++ [⟨k, M, r.size, u, t, n⟩])) := HO4.out.below hb5 (Nat.le_refl _); have HB5 : Hid (Below w.heap.size w w5) := HB4.out.trans (hb5.mono HB4.out.size); clear hb5)
          | (at_builtin; go_must (first
              | (refine push_T rfl _ _ 27 rfl Tryd.underlying27 w.heap.size _ (toksL g0.size its) rfl HWW.out (w2.heap.size + 1) 1 ⟨k, M, r.size, u, t, n⟩ rfl HTB.out (by have := HM.out.2.2; omega) HBW.out.size ?_; intro v3 w3 hO3 hgr3 hb3; have HS3 : Hid (OwnS w3 w.heap.size (.slice (some ⟨g, 0, none⟩) M c) (g0.data.toList ++ textL its)) := HSW.out.kept hgr3 (apart HSW.out HWW.out); have HO3 : Hid (OwnT w3 w.heap.size v3 (toksL g0.size its ++ [⟨k, M, r.size, u, t, n⟩])) := hO3; have HB3 : Hid (Below w.heap.size w w3) := HBW.out.trans hb3; clear hO3 hgr3 hb3)
              | (refine push_S rfl _ _ rfl w.heap.size _ (g0.data.toList ++ textL its) rfl HS3.out r rfl (by have := HM.out.1; omega) HB3.out.size ?_; intro v4 w4 hS4 hb4 hgr4; have HO4 : Hid (OwnT w4 w.heap.size v3 (toksL g0.size its ++ [⟨k, M, r.size, u, t, n⟩])) := HO3.out.kept hgr4 (.inr (Ne.symm (apart HS3.out HO3.out))); have HS4 : Hid (OwnS w4 w.heap.size v4 (g0.data.toList ++ textL its ++ r.data.toList)) := hS4; have HB4 : Hid (Below w.heap.size w w4) := HB3.out.trans hb4; clear hS4 hb4 hgr4)
              | (refine push_S rfl _ _ rfl w.heap.size _ (g0.data.toList ++ textL its ++ r.data.toList) rfl HS5.out g1 rfl (by have := HM.out.2.1; omega) HB5.out.size ?_; intro v6 w6 hS6 hb6 hgr6; have HO6 : Hid (OwnT w6 w.heap.size v3 (toksL g0.size its ++ [⟨k, M, r.size, u, t, n⟩])) := HO5.out.kept hgr6 (.inr (Ne.symm (apart HS5.out HO5.out))); have HS6 : Hid (OwnS w6 w.heap.size v6 (g0.data.toList ++ textL its ++ r.data.toList ++ g1.data.toList)) := hS6; have HB6 : Hid (Below w.heap.size w w6) := HB5.out.trans hb6; clear hS6 hb6 hgr6))))
        obtain ⟨A3, c3, rfl⟩ := formT HO6.out
        obtain ⟨g5, c5, rfl⟩ := formS HS6.out
        obtain ⟨m1, m2, m3, _⟩ := HM.out
        have el : (toksL g0.size its ++ [(⟨k, M, r.size, u, t, n⟩ : Tok)]).length = i + 1 := by rw [List.length_append, m3]; rfl
        have em : (g0.data.toList ++ textL its ++ r.data.toList ++ g1.data.toList).length = M + r.size + g1.size := by rw [List.length_append, m2]; rfl
        have hO := HO6.out
        have hS := HS6.out
        rw [el] at hO ⊢
        rw [em] at hS ⊢
        have ex : textL (its ++ [(⟨r, k, u, t, n, g1⟩ : Item)]) = textL its ++ (r.data.toList ++ g1.data.toList) := by simp [textL, itemL]
        have et : g0.data.toList ++ textL (its ++ [(⟨r, k, u, t, n, g1⟩ : Item)]) = g0.data.toList ++ textL its ++ r.data.toList ++ g1.data.toList := by rw [ex]; simp
        have ek := toks_snoc its g0.size ⟨r, k, u, t, n, g1⟩
        obtain ⟨f1, f2, f3⟩ := HF.out
        rw [← f2] at ek
        have r1 : r.data.toList.length = r.size := by simp
        have r2 : g1.data.toList.length = g1.size := by simp
        refine ⟨⟨i + 1, its ++ [⟨r, k, u, t, n, g1⟩], M + r.size + g1.size, g5, c5, A3, c3, by go_num, rfl, rfl, by omega, by omega, ⟨by simp [f1], ?_, ?_⟩, ?_, ?_, HB6.out⟩, by simp [intOf]; omega⟩
        · rw [ex, List.length_append, List.length_append, r1, r2]; omega
        · intro x hx
          rcases List.mem_append.1 hx with hx | hx
          · exact f3 x hx
          · have : x = ⟨r, k, u, t, n, g1⟩ := by simpa using hx
            subst this
            exact ⟨HTD.out, Hg1.out⟩
        · show OwnS _ _ _ _
          rw [et]; exact hS
        · show OwnT _ _ _ _
          rw [ek]; exact hO
    · have hie : i = N := by omega
      subst hie
      clear hlt
      by_cases h0 : i = 0
      · subst h0
        obtain ⟨hlen, hM, hok⟩ := HF.out
        have hrr := row_run g0 its Hg0.out hok (by omega)
        have hcv := convS HS.out (by rw [List.length_append, hM]; rfl)
        have HRR : Hid ((⟨(g0.data.toList ++ textL its).toArray⟩ : ByteArray).size ≤ 32768 ∧ Run ⟨(g0.data.toList ++ textL its).toArray⟩ 0 true (toksL g0.size its) 0 0) := hrr
        have HTL : Hid ((toksL g0.size its).length ≤ 9223372036854775807) := by show _ ≤ _; rw [toks_len]; omega
        generalize (⟨(g0.data.toList ++ textL its).toArray⟩ : ByteArray) = R at hcv HRR
        generalize toksL g0.size its = TK at HRR HW HTL
        clear hlen hM hok hrr HF HS
        go_wp2_with fail
        refine (scan_run R TK 0 0 HRR.out.1 HRR.out.2 _).mono ?_
        rintro e w4 ⟨v, rfl, hO, hb⟩
        rw [if_pos rfl] at hO
        have HO : Hid (RT w4 v TK) := hO.rt
        have HO2 := (HW.out.below hb (Nat.le_refl _)).rt
        have HB4 : Hid (Below w.heap.size w w4) := HBr.out.trans (hb.mono HBr.out.size)
        clear hO hb
        go_wp2_with fail
        refine (same_any v _ TK _ HTL.out (HO.out.below ((Below.refl _ w4).alloc (Nat.le_refl _) (.cells #[.int .i64 0, .int .i64 0] 29)) (Nat.le_refl _)) (HO2.below ((Below.refl _ w4).alloc (Nat.le_refl _) (.cells #[.int .i64 0, .int .i64 0] 29)) (Nat.le_refl _))).mono ?_
        rintro e w5 ⟨rfl, hg⟩
        have HB5 : Hid (Below w.heap.size w w5) := (HB4.out.alloc HB4.out.size _).trans (hg.below.mono (by rw [World.size_alloc]; have := HB4.out.size; omega))
        clear hg
        go_wp2
        go_ret
        exact ⟨rfl, HB5.out⟩
      · have hi0 : ((i : Int) == 0) = false := by simp; omega
        obtain ⟨hlen, hM, hok⟩ := HF.out
        have hrr := row_run g0 its Hg0.out hok (by omega)
        have hcv := convS HS.out (by rw [List.length_append, hM]; rfl)
        have HRR : Hid ((⟨(g0.data.toList ++ textL its).toArray⟩ : ByteArray).size ≤ 32768 ∧ Run ⟨(g0.data.toList ++ textL its).toArray⟩ 0 true (toksL g0.size its) 0 0) := hrr
        have HTL : Hid ((toksL g0.size its).length ≤ 9223372036854775807) := by show _ ≤ _; rw [toks_len]; omega
        generalize (⟨(g0.data.toList ++ textL its).toArray⟩ : ByteArray) = R at hcv HRR
        generalize toksL g0.size its = TK at HRR HW HTL
        clear hlen hM hok hrr HF HS
        go_wp2_with fail
        refine (scan_run R TK 0 0 HRR.out.1 HRR.out.2 _).mono ?_
        rintro e w4 ⟨v, rfl, hO, hb⟩
        rw [if_pos rfl] at hO
        have HO : Hid (RT w4 v TK) := hO.rt
        have HO2 := (HW.out.below hb (Nat.le_refl _)).rt
        have HB4 : Hid (Below w.heap.size w w4) := HBr.out.trans (hb.mono HBr.out.size)
        clear hO hb
        go_wp2_with fail
        refine (same_any v _ TK _ HTL.out (HO.out.below ((Below.refl _ w4).alloc (Nat.le_refl _) (.cells #[.int .i64 0, .int .i64 0] 29)) (Nat.le_refl _)) (HO2.below ((Below.refl _ w4).alloc (Nat.le_refl _) (.cells #[.int .i64 0, .int .i64 0] 29)) (Nat.le_refl _))).mono ?_
        rintro e w5 ⟨rfl, hg⟩
        have HB5 : Hid (Below w.heap.size w w5) := (HB4.out.alloc HB4.out.size _).trans (hg.below.mono (by rw [World.size_alloc]; have := HB4.out.size; omega))
        clear hg
        go_wp2
        go_ret
        exact ⟨rfl, HB5.out⟩
end Go.Proofs
