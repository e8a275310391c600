/-
  The document's Scan.
-/
import Derived.Shelf.Abstract
import Derived.Shelf.RegionOpen
import Derived.WalkKit
import Derived.WalkSpells
import Derived.WalkLawsBesides
import Derived.BigQuiet
import Derived.Deep.QuietTactic
import Derived.Deep.LoopGhost
import Derived.Lib.OthersKept
import Derived.Maps.AppendAt
import Derived.WalkMore
import Derived.Test.YtknaoahokopplaaGreatDoorMgmr
namespace Go.Proofs
open Go.RowKit Go.Shelf

set_option maxRecDepth 100000
attribute [local go_sem] Oper.semAt_some

/-- from a place on, the document reads the tokens toks; then the text ends (fe = 0), or a token at fa is refused by fe -/
inductive RRun (s : ByteArray) : Nat → Bool → List Tok → Nat → Int → Prop
  | fin {p : Nat} {fresh : Bool} (h : p + pastN false (s.data.toList.drop p) = s.size) : RRun s p fresh [] 0 0
  | bad {p : Nat} {fresh : Bool} {q : Nat} {e0 : Int} (hq : q = p + pastN false (s.data.toList.drop p)) (hlt : q < s.size) (hb : Tells 45 #[.string s, .int .i64 q, .bool fresh] 0 0 0 0 ⟨#[]⟩ 0 e0) (he : e0 ≠ 0) : RRun s p fresh [] q e0
  | step {p : Nat} {fresh : Bool} {q : Nat} {k u : Int} {l : Nat} {t : ByteArray} {n : Int} {toks : List Tok} {fa : Nat} {fe : Int} (hq : q = p + pastN false (s.data.toList.drop p)) (hlt : q < s.size) (hb : Tells 45 #[.string s, .int .i64 q, .bool fresh] k q l u t n 0) (h0 : 0 < l) (hl : q + l ≤ s.size) (hr : RRun s (q + l) (decide (k = 11)) toks fa fe) : RRun s p fresh (⟨k, q, l, u, t, n⟩ :: toks) fa fe
/-- how far the document's Scan is -/
def RS (s : ByteArray) (toks : List Tok) (fa : Nat) (fe : Int) (w : World) (q : Nat) (A : Option Addr) (c : Nat) (pre : List Tok) (W : World) : Prop :=
  ∃ (p : Nat) (fr : Bool) (rest : List Tok), q = p + pastN false (s.data.toList.drop p) ∧ q ≤ s.size ∧ pre.length ≤ p ∧ RRun s p fr rest fa fe ∧ toks = pre ++ rest ∧ (fr = match pre.getLast? with | none => true | some x => decide (x.k = 11)) ∧ OwnT W (w.heap.size + 1) (.slice A pre.length c) pre ∧ FB W w.heap.size 0 0 ∧ Below w.heap.size w W
set_option maxHeartbeats 2000000 in
theorem rscan_run (s : ByteArray) (toks : List Tok) (fa : Nat) (fe : Int) (hs : s.size ≤ 32768) (hR : RRun s 0 true toks fa fe) (w : World) :
    Calls Tryz.prog 22 #[.string s] w fun e w' => ∃ v, e = .returned (.tuple #[v, .agg #[.int .i64 fa, .int .i64 fe]]) ∧ (if fe = 0 then OwnT w' w.heap.size v toks else v = .slice none 0 0) ∧ Below w.heap.size w w' := by
  have hd : decide ((32768 : Int) < (s.size : Int)) = false := by simp; omega
  obtain ⟨q0, hq0⟩ : ∃ q0, 0 + pastN false (s.data.toList.drop 0) = q0 := ⟨_, rfl⟩
  have hq0z : q0 ≤ s.size := by
    have := pastN_le false (s.data.toList.drop 0)
    simp at this
    simp at hq0
    omega
  have H0 : Hid (RS s toks fa fe w q0 none 0 [] (w.alloc (.cells #[.int .i64 0, .int .i64 0] 32))) := ⟨0, true, toks, hq0.symm, hq0z, by simp, hR, rfl, rfl, OwnT.nil _ _, FB.new _ _ _, (Below.refl _ w).alloc (Nat.le_refl _) _⟩
  have HO : Hid (∀ w, Calls Tryz.prog 44 #[.string s, .int .i64 0] w fun e w' => e = .returned (.int .i64 q0) ∧ w' = w) := fun w => by
    have := rover_any s 0 w (by unfold maxLen; omega) (by omega)
    rw [hq0] at this
    simpa using this
  clear hR hq0
  go_enter Tryz.func22, Tryz.ntmps22
  go_wp2_with fail
  refine (HO.out _).mono ?_
  rintro e w1 ⟨rfl, rfl⟩
  go_wp2
  go_loopw [4, 5] (fun vo va wr => ∃ (q : Nat) (A : Option Addr) (c : Nat) (pre : List Tok), vo = .slice A pre.length c ∧ va = .int .i64 q ∧ Hid (RS s toks fa fe w q A c pre wr)) (fun _ va _ => s.size - (intOf va).toNat)
  case atStart => exact ⟨q0, none, 0, [], rfl, rfl, H0⟩
  case round =>
    obtain ⟨q, A, c, pre, rfl, rfl, HR⟩ := hrel
    obtain ⟨p, fr, rest, hq, hqz, hpl, hrun, htk, hfr, hO, hF, hB⟩ := HR.out
    clear HR H0 HO
    have HH : Hid (OwnT wr (w.heap.size + 1) (.slice A pre.length c) pre ∧ FB wr w.heap.size 0 0 ∧ Below w.heap.size w wr) := ⟨hO, hF, hB⟩
    by_cases hend : q = s.size
    · have hfin : rest = [] ∧ fa = 0 ∧ fe = 0 := by
        cases hrun with
        | fin h => exact ⟨rfl, rfl, rfl⟩
        | bad hq2 hlt hb he => omega
        | step hq2 hlt hb h0 hl hr => omega
      obtain ⟨rfl, rfl, rfl⟩ := hfin
      have HTk : Hid (toks = pre) := by rw [htk]; simp [Hid]
      subst hend
      obtain ⟨c0, c1, f0, f1⟩ := hF.cells
      clear hq hqz hrun htk hfr hO hF hB hpl
      go_wp2
      have HF2 := HH.out.2.1.set 0 0
      obtain ⟨d0, d1, _, _⟩ := HF2.cells
      refine bodyPost_ret (v := .tuple #[.slice A pre.length c, .agg #[.int .i64 0, .int .i64 0]]) (by simp [results, Tryz.f22, go_sem, d0, d1]) rfl ⟨_, rfl, ?_, ?_⟩
      · rw [HTk.out]
        exact ((HH.out.1.kept (grown_setB _ _ _ _) (ownT_apart HH.out.1)).kept (grown_setB _ _ _ _) (ownT_apart HH.out.1)).le (Nat.le_succ _)
      · exact (HH.out.2.2.setCell (p := ⟨w.heap.size, 0, none⟩) (Nat.le_refl _) _).setCell (p := ⟨w.heap.size, 1, none⟩) (Nat.le_refl _) _
    · have hlt : q < s.size := by omega
      have hlt' : (q : Int) < (s.size : Int) := by omega
      have hqI : (q : Int) ≤ 32768 := by omega
      obtain ⟨c0, c1, f0, f1⟩ := hF.cells
      have hlast : (pre = [] ∧ fr = true) ∨ ∃ pre' x g, pre = pre' ++ [x] ∧ A = some ⟨g, 0, none⟩ ∧ fr = decide (x.k = 11) ∧ wr.cell? ⟨g, pre'.length * 6, none⟩ = some (.int .i64 x.k) := by
        rcases List.eq_nil_or_concat pre with rfl | ⟨pre', x, rfl⟩
        · exact .inl ⟨rfl, hfr⟩
        · right
          rw [List.concat_eq_append] at *
          rcases hO.2 with ⟨e1, h0⟩ | ⟨g, cap, cur, e1, k1, k2, k3, k4, k5, k6⟩
          · simp at h0
          · injection e1 with e1 e2 e3
            refine ⟨pre', x, g, rfl, e1, by simpa using hfr, ?_⟩
            have hx : (ft (pre' ++ [x]))[pre'.length * 6]? = some (.int .i64 x.k) := by
              rw [ft_append, List.getElem?_append_right (by rw [ft_length]; omega), ft_length]
              simp [ft, tok1]
            rw [← k6, List.getElem?_take] at hx
            split at hx
            · simp only [World.cell?, k2]
              simpa using hx
            · cases hx
      cases hrun with
      | fin h => omega
      | bad hq2 hlt2 hb he =>
        have hqq : q = fa := by omega
        subst hqq
        have HV : Hid (Tells 45 #[.string s, .int .i64 q, .bool fr] 0 0 0 0 ⟨#[]⟩ 0 fe) := hb
        have hen : (fe != 0) = true := by simpa using he
        rcases hlast with ⟨hpe, hfe⟩ | ⟨pre', x, g, hpe, hAe, hfe, hx⟩
        · subst hpe hfe
          clear hq hqz htk hfr hO hF hB hpl hb hq2
          go_wp2_with fail
          refine (HV.out _).mono ?_
          rintro e w2 ⟨rfl, hb2⟩
          have HF2 := HH.out.2.1.below hb2 HH.out.2.1.lt
          have d0 := fun o => (HF2.allocs o).cells.1
          have d1 := fun o => (HF2.allocs o).cells.2.1
          have g0 := fun o => (HF2.allocs o).cells.2.2.1
          have g1 := fun o => (HF2.allocs o).cells.2.2.2
          have HB2 : Hid (Below w.heap.size w w2 ∧ FB w2 w.heap.size 0 0) := ⟨HH.out.2.2.trans (hb2.mono HH.out.2.2.size), HF2⟩
          clear hb2 c0 c1 f0 f1 HF2
          go_wp2
          have HF3 := (HB2.out.2.allocs (.cells #[.int .i64 0, .int .i64 0, .int .i64 0, .int .i64 0, .string ⟨#[]⟩, .int .i64 0] 52)).set q fe
          obtain ⟨e0, e1, _, _⟩ := HF3.cells
          exact bodyPost_ret (v := .tuple #[.slice none 0 0, .agg #[.int .i64 q, .int .i64 fe]]) (by simp [results, Tryz.f22, go_sem, e0, e1]) rfl ⟨_, rfl, (by first | rfl | (rw [if_neg he])), ((HB2.out.1.alloc HB2.out.1.size _).setCell (p := ⟨w.heap.size, 0, none⟩) (Nat.le_refl _) _).setCell (p := ⟨w.heap.size, 1, none⟩) (Nat.le_refl _) _⟩
        · subst hpe hAe hfe
          rw [List.length_append, List.length_singleton] at HH hpl ⊢
          obtain ⟨N, hN⟩ : ∃ N, pre'.length = N := ⟨_, rfl⟩
          rw [hN] at HH hpl hx ⊢
          have hNI : (N : Int) ≤ 32768 := by omega
          have hN0 : (0 : Int) ≤ (N : Int) := by omega
          have hNz : ((N : Int) + 1 == 0) = false := by simp; omega
          have hxk : ((x.k == 11) : Bool) = decide (x.k = 11) := by rw [Bool.eq_iff_iff]; simp
          clear hq hqz htk hfr hO hF hB hpl hb hq2
          go_wp2_with fail
          refine (HV.out _).mono ?_
          rintro e w2 ⟨rfl, hb2⟩
          have HF2 := HH.out.2.1.below hb2 HH.out.2.1.lt
          have d0 := fun o => (HF2.allocs o).cells.1
          have d1 := fun o => (HF2.allocs o).cells.2.1
          have g0 := fun o => (HF2.allocs o).cells.2.2.1
          have g1 := fun o => (HF2.allocs o).cells.2.2.2
          have HB2 : Hid (Below w.heap.size w w2 ∧ FB w2 w.heap.size 0 0) := ⟨HH.out.2.2.trans (hb2.mono HH.out.2.2.size), HF2⟩
          clear hb2 c0 c1 f0 f1 HF2
          go_wp2
          have HF3 := (HB2.out.2.allocs (.cells #[.int .i64 0, .int .i64 0, .int .i64 0, .int .i64 0, .string ⟨#[]⟩, .int .i64 0] 52)).set q fe
          obtain ⟨e0, e1, _, _⟩ := HF3.cells
          exact bodyPost_ret (v := .tuple #[.slice none 0 0, .agg #[.int .i64 q, .int .i64 fe]]) (by simp [results, Tryz.f22, go_sem, e0, e1]) rfl ⟨_, rfl, (by first | rfl | (rw [if_neg he])), ((HB2.out.1.alloc HB2.out.1.size _).setCell (p := ⟨w.heap.size, 0, none⟩) (Nat.le_refl _) _).setCell (p := ⟨w.heap.size, 1, none⟩) (Nat.le_refl _) _⟩
      | @step _ _ q2 k u l tt n toks2 _ _ hq2 hlt2 hb h0 hl hr =>
        have hqq : q = q2 := by omega
        subst hqq
        have HV : Hid (Tells 45 #[.string s, .int .i64 q, .bool fr] k q l u tt n 0) := hb
        obtain ⟨q3, hq3⟩ : ∃ q3, q + l + pastN false (s.data.toList.drop (q + l)) = q3 := ⟨_, rfl⟩
        have hq3z : q3 ≤ s.size := by
          have := pastN_le false (s.data.toList.drop (q + l))
          simp at this
          omega
        have HOV : Hid (∀ w, Calls Tryz.prog 44 #[.string s, .int .i64 ((q : Int) + (l : Int))] w fun e w' => e = .returned (.int .i64 q3) ∧ w' = w) := fun w => by
          have := rover_any s (q + l) w (by unfold maxLen; omega) hl
          rw [hq3] at this
          simpa using this
        have HRR : Hid (RRun s (q + l) (decide (k = 11)) toks2 fa fe ∧ toks = pre ++ ⟨k, q, l, u, tt, n⟩ :: toks2 ∧ q3 = q + l + pastN false (s.data.toList.drop (q + l))) := ⟨hr, htk, hq3.symm⟩
        have HPL : Hid (pre.length ≤ q) := by
          show _ ≤ _
          omega
        have hlI : (l : Int) ≤ 32768 := by omega
        have hl0 : (0 : Int) ≤ (l : Int) := by omega
        clear hr hq3
        rcases hlast with ⟨hpe, hfe⟩ | ⟨pre', x, g, hpe, hAe, hfe, hx⟩
        · subst hpe hfe
          clear hq hqz htk hfr hO hF hB hpl hb hq2
          go_wp2_with fail
          refine (HV.out _).mono ?_
          rintro e w2 ⟨rfl, hb2⟩
          have HF2 := HH.out.2.1.below hb2 HH.out.2.1.lt
          have HB2 := HH.out.2.2.trans (hb2.mono HH.out.2.2.size)
          have HO2 := HH.out.1.below hb2 (Nat.le_refl _)
          have hY : TB ((w2.alloc (.cells #[.int .i64 k, .int .i64 q, .int .i64 l, .int .i64 u, .string tt, .int .i64 n] 52)).alloc (.cells #[.int .i64 k, .int .i64 q, .int .i64 l, .int .i64 u, .string tt, .int .i64 n] 52)) (w2.heap.size + 1) k q l u tt n := by
            have := TB.new (w2.alloc (.cells #[.int .i64 k, .int .i64 q, .int .i64 l, .int .i64 u, .string tt, .int .i64 n] 52)) k q l u tt n
            rwa [World.size_alloc] at this
          have hX : TB ((w2.alloc (.cells #[.int .i64 k, .int .i64 q, .int .i64 l, .int .i64 u, .string tt, .int .i64 n] 52)).alloc (.cells #[.int .i64 k, .int .i64 q, .int .i64 l, .int .i64 u, .string tt, .int .i64 n] 52)) w2.heap.size k q l u tt n := (Below.heap_alloc _ _ _ (by simp)).trans (TB.new w2 k q l u tt n)
          have hz2 : w.heap.size + 1 ≤ w2.heap.size := HF2.lt
          have HOL : Hid (∀ j, (Value.slice A 0 c).ownBlock = some j → j < w2.heap.size ∧ w.heap.size + 1 ≤ j) := fun j hj => ⟨(World.ownsRow.lt HO2 j hj).2, (World.ownsRow.lt HO2 j hj).1⟩
          have HHH : Hid (TB ((w2.alloc (.cells #[.int .i64 k, .int .i64 q, .int .i64 l, .int .i64 u, .string tt, .int .i64 n] 52)).alloc (.cells #[.int .i64 k, .int .i64 q, .int .i64 l, .int .i64 u, .string tt, .int .i64 n] 52)) w2.heap.size k q l u tt n ∧ TB ((w2.alloc (.cells #[.int .i64 k, .int .i64 q, .int .i64 l, .int .i64 u, .string tt, .int .i64 n] 52)).alloc (.cells #[.int .i64 k, .int .i64 q, .int .i64 l, .int .i64 u, .string tt, .int .i64 n] 52)) (w2.heap.size + 1) k q l u tt n ∧ FB w2 w.heap.size 0 0 ∧ Below w.heap.size w w2 ∧ OwnT w2 (w.heap.size + 1) (.slice A 0 c) []) := ⟨hX, hY, HF2, HB2, HO2⟩
          clear hX hY HF2 HB2 HO2 hb2 HH c0 c1 f0 f1
          go_wp2_with (first | (at_builtin; go_must (refine push_T rfl _ _ 47 rfl Tryz.underlying47 (w.heap.size + 1) _ ([]) rfl ((HHH.out.2.2.2.2.alloc _).alloc _) _ _ ⟨k, q, l, u, tt, n⟩ rfl HHH.out.2.1 (by decide) (by simp; omega) ?_); intro v' w3 hO1 hgr hb1; obtain ⟨A3, c3, rfl⟩ := formT hO1; have hX3 : TB w3 w2.heap.size k q l u tt n := (hgr.block w2.heap.size (by simp; omega) (fun e => by have := (HOL.out _ e.symm).1; omega)).trans HHH.out.1; obtain ⟨x0, x1, x2, x3, x4, x5⟩ := hX3.cells) | (go_at_call 44; refine (HOV.out _).mono ?_; rintro e w4 ⟨rfl, rfl⟩))
          refine ⟨⟨q3, A3, c3, [] ++ [⟨k, q, l, u, tt, n⟩], by simp, rfl, ⟨q + l, decide (k = 11), toks2, HRR.out.2.2, hq3z, ?_, HRR.out.1, by rw [HRR.out.2.1]; simp, by simp, hO1, ?_, ?_⟩⟩, by simp [intOf]; have := HRR.out.2.2; omega⟩
          · have := HPL.out
            simp at this ⊢
            omega
          · exact (hgr.block w.heap.size (by simp; omega) (fun e => by have := (HOL.out _ e.symm).2; omega)).trans ((HHH.out.2.2.1.allocs _).allocs _)
          · exact ((HHH.out.2.2.2.1.alloc HHH.out.2.2.2.1.size _).alloc (by have := HHH.out.2.2.2.1.size; simp; omega) _).trans (hb1.mono (Nat.le_succ _))
        · subst hpe hAe hfe
          rw [List.length_append, List.length_singleton] at HH hpl ⊢
          obtain ⟨N, hN⟩ : ∃ N, pre'.length = N := ⟨_, rfl⟩
          rw [hN] at HH hpl hx ⊢
          have hNI : (N : Int) ≤ 32768 := by omega
          have hN0 : (0 : Int) ≤ (N : Int) := by omega
          have hNz : ((N : Int) + 1 == 0) = false := by simp; omega
          have hxk : ((x.k == 11) : Bool) = decide (x.k = 11) := by rw [Bool.eq_iff_iff]; simp
          clear hq hqz htk hfr hO hF hB hpl hb hq2
          go_wp2_with fail
          refine (HV.out _).mono ?_
          rintro e w2 ⟨rfl, hb2⟩
          have HF2 := HH.out.2.1.below hb2 HH.out.2.1.lt
          have HB2 := HH.out.2.2.trans (hb2.mono HH.out.2.2.size)
          have HO2 := HH.out.1.below hb2 (Nat.le_refl _)
          have hY : TB ((w2.alloc (.cells #[.int .i64 k, .int .i64 q, .int .i64 l, .int .i64 u, .string tt, .int .i64 n] 52)).alloc (.cells #[.int .i64 k, .int .i64 q, .int .i64 l, .int .i64 u, .string tt, .int .i64 n] 52)) (w2.heap.size + 1) k q l u tt n := by
            have := TB.new (w2.alloc (.cells #[.int .i64 k, .int .i64 q, .int .i64 l, .int .i64 u, .string tt, .int .i64 n] 52)) k q l u tt n
            rwa [World.size_alloc] at this
          have hX : TB ((w2.alloc (.cells #[.int .i64 k, .int .i64 q, .int .i64 l, .int .i64 u, .string tt, .int .i64 n] 52)).alloc (.cells #[.int .i64 k, .int .i64 q, .int .i64 l, .int .i64 u, .string tt, .int .i64 n] 52)) w2.heap.size k q l u tt n := (Below.heap_alloc _ _ _ (by simp)).trans (TB.new w2 k q l u tt n)
          have hz2 : w.heap.size + 1 ≤ w2.heap.size := HF2.lt
          have HOL : Hid (∀ j, (Value.slice (some ⟨g, 0, none⟩) (N + 1) c).ownBlock = some j → j < w2.heap.size ∧ w.heap.size + 1 ≤ j) := fun j hj => ⟨(World.ownsRow.lt HO2 j hj).2, (World.ownsRow.lt HO2 j hj).1⟩
          have HHH : Hid (TB ((w2.alloc (.cells #[.int .i64 k, .int .i64 q, .int .i64 l, .int .i64 u, .string tt, .int .i64 n] 52)).alloc (.cells #[.int .i64 k, .int .i64 q, .int .i64 l, .int .i64 u, .string tt, .int .i64 n] 52)) w2.heap.size k q l u tt n ∧ TB ((w2.alloc (.cells #[.int .i64 k, .int .i64 q, .int .i64 l, .int .i64 u, .string tt, .int .i64 n] 52)).alloc (.cells #[.int .i64 k, .int .i64 q, .int .i64 l, .int .i64 u, .string tt, .int .i64 n] 52)) (w2.heap.size + 1) k q l u tt n ∧ FB w2 w.heap.size 0 0 ∧ Below w.heap.size w w2 ∧ OwnT w2 (w.heap.size + 1) (.slice (some ⟨g, 0, none⟩) (N + 1) c) (pre' ++ [x])) := ⟨hX, hY, HF2, HB2, HO2⟩
          clear hX hY HF2 HB2 HO2 hb2 HH c0 c1 f0 f1
          go_wp2_with (first | (at_builtin; go_must (refine push_T rfl _ _ 47 rfl Tryz.underlying47 (w.heap.size + 1) _ ((pre' ++ [x])) rfl ((HHH.out.2.2.2.2.alloc _).alloc _) _ _ ⟨k, q, l, u, tt, n⟩ rfl HHH.out.2.1 (by have := HPL.out; simp only [List.length_append, List.length_cons, List.length_nil] at this ⊢; omega) (by simp; omega) ?_); intro v' w3 hO1 hgr hb1; obtain ⟨A3, c3, rfl⟩ := formT hO1; have hX3 : TB w3 w2.heap.size k q l u tt n := (hgr.block w2.heap.size (by simp; omega) (fun e => by have := (HOL.out _ e.symm).1; omega)).trans HHH.out.1; obtain ⟨x0, x1, x2, x3, x4, x5⟩ := hX3.cells) | (go_at_call 44; refine (HOV.out _).mono ?_; rintro e w4 ⟨rfl, rfl⟩))
          refine ⟨⟨q3, A3, c3, (pre' ++ [x]) ++ [⟨k, q, l, u, tt, n⟩], by simp [hN], rfl, ⟨q + l, decide (k = 11), toks2, HRR.out.2.2, hq3z, ?_, HRR.out.1, by rw [HRR.out.2.1]; simp, by simp, hO1, ?_, ?_⟩⟩, by simp [intOf]; have := HRR.out.2.2; omega⟩
          · have := HPL.out
            simp at this ⊢
            omega
          · exact (hgr.block w.heap.size (by simp; omega) (fun e => by have := (HOL.out _ e.symm).2; omega)).trans ((HHH.out.2.2.1.allocs _).allocs _)
          · exact ((HHH.out.2.2.2.1.alloc HHH.out.2.2.2.1.size _).alloc (by have := HHH.out.2.2.2.1.size; simp; omega) _).trans (hb1.mono (Nat.le_succ _))
end Go.Proofs
