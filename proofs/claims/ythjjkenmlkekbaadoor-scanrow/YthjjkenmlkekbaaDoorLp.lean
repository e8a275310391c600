/-
  ScanPlaces, walked.
-/
import Derived.Shelf.Abstract
import Derived.Shelf.RegionOpen
import Derived.WalkKit
import Derived.WalkSpells
import Derived.WalkLawsBesides
import Derived.BigQuiet
import Derived.Deep.QuietTactic
import Derived.Deep.LoopGhost
import Derived.Lib.OthersKept
import Derived.ScopeJumps
import Derived.WalkMore
import Derived.Maps.AppendAt
import Derived.Lib.SmallJoins
import Derived.Test.YthjjkenmlkekbaaDoorLe
namespace Go.Proofs
open Go.RowKit Go.Shelf

set_option maxRecDepth 100000
attribute [local go_sem] Oper.semAt_some


theorem RunP.zero {s : ByteArray} {p : Nat} {fresh : Bool} {toks : List Tok} {fa : Nat} {fe : Int} (h : RunP s p fresh toks fa fe) (he : fe = 0) : fa = 0 := by
  induction h with
  | fin h => rfl
  | bad hq hlt hb he2 => exact absurd he he2
  | step hq hlt hb h0 hl _ _ ih => exact ih he
theorem RunP.len {s : ByteArray} {p : Nat} {fresh : Bool} {toks : List Tok} {fa : Nat} {fe : Int} (h : RunP s p fresh toks fa fe) : toks.length + p ≤ s.size := by
  induction h with
  | fin h => simp; omega
  | bad hq hlt hb he2 => simp; omega
  | step hq hlt hb h0 hl _ _ ih => rw [List.length_cons]; omega
set_option maxHeartbeats 1000000 in
theorem places_fault (s : ByteArray) (fa : Nat) (fe : Int) (w : World) (hT : Tab w) (_hs : s.size ≤ 9223372036854775807) (hfe : fe ≠ 0) (hfa : fa ≤ s.size) (hS : Hid (∀ W : World, Calls Tryd.prog 12 #[.string s] W fun e w' => e = .returned (.tuple #[.slice none 0 0, .agg #[.int .i64 fa, .int .i64 fe]]) ∧ Below W.heap.size W w')) :
    Calls Tryd.prog 5 #[.string s] w fun e w' => e = .returned (.bool true) ∧ Below w.heap.size w w' := by
  have HT : Hid (Tab w) := hT
  clear hT
  have hfei : (fe == 0) = false := by simpa using hfe
  have hfai : (fa : Int) ≤ (s.size : Int) := by omega
  have hfa0 : (0 : Int) ≤ (fa : Int) := by omega
  go_enter Tryd.func5, Tryd.ntmps5
  go_wp2_with fail
  refine (shown_any _ HT.out).mono ?_
  rintro e w1 ⟨rfl, hb⟩
  have HB : Hid (Below w.heap.size w w1) := hb
  clear hb
  go_wp2_with fail
  refine (hS.out _).mono ?_
  rintro e w2 ⟨rfl, hb⟩
  replace HB : Hid (Below w.heap.size w w2) := HB.out.trans (hb.mono HB.out.size)
  clear hb
  go_wp2
  go_ret
  exact ⟨rfl, HB.out.alloc HB.out.size _⟩
set_option maxHeartbeats 2000000 in
theorem places_good (s : ByteArray) (toks : List Tok) (w : World) (hT : Tab w) (hs : s.size ≤ 32768) (hR : RunP s 0 true toks 0 0) :
    Calls Tryd.prog 5 #[.string s] w fun e w' => e = .returned (.bool true) ∧ Below w.heap.size w w' := by
  have HT : Hid (Tab w) := hT
  have HR : Hid (RunP s 0 true toks 0 0) := hR
  clear hT hR
  go_enter Tryd.func5, Tryd.ntmps5
  go_wp2_with fail
  refine (shown_any _ HT.out).mono ?_
  rintro e w1 ⟨rfl, hb⟩
  have HB : Hid (Below w.heap.size w w1) := hb
  clear hb
  go_wp2_with fail
  refine (scan_run s toks 0 0 hs HR.out.run _).mono ?_
  rintro e w2 ⟨v, rfl, hO, hb⟩
  rw [if_pos rfl] at hO
  obtain ⟨A, c, rfl⟩ := formT hO
  have HO : Hid (OwnT w2 w1.heap.size (.slice A toks.length c) toks) := hO
  replace HB : Hid (Below w.heap.size w w2) := HB.out.trans (hb.mono HB.out.size)
  clear hb hO
  go_wp2_with fail
  obtain ⟨N, hN⟩ : ∃ N, toks.length = N := ⟨_, rfl⟩
  have HN : Hid (toks.length = N) := hN
  rw [hN] at HO ⊢
  have hNb : N ≤ 32768 := by
    have := HR.out.len
    omega
  clear hN
  go_loopw [5, 38] (fun va vi wr => ∃ (j p : Nat) (fr : Bool) (rest : List Tok), vi = .int .i64 j ∧ va = .int .i64 p ∧ j ≤ N ∧ p ≤ s.size ∧ Hid (RunP s p fr rest 0 0) ∧ Hid (toks.drop j = rest) ∧ Hid (OwnT wr w1.heap.size (.slice A N c) toks) ∧ Hid (Below w.heap.size w wr)) (fun _ vi _ => N - (intOf vi).toNat)
  case atStart => exact ⟨0, 0, true, toks, rfl, rfl, by omega, by omega, HR, List.drop_zero, HO.out.alloc _, HB.out.alloc HB.out.size _⟩
  case round =>
    obtain ⟨j, p, fr, rest, rfl, rfl, hj, hp, HR2, HD, HO2, HB2⟩ := hrel
    clear HR HO HB
    have hrun := HR2.out
    have hdr := HD.out
    clear HR2 HD
    cases hrun with
    | fin h =>
      have hjN : j = N := by
        have := congrArg List.length hdr
        rw [List.length_drop, HN.out] at this
        simp at this
        omega
      subst hjN
      have HL : Hid (∀ W : World, Calls Tryd.prog 16 #[.string (s.extract p s.size)] W fun e w' => e = .returned (.bool true) ∧ w' = W) := fun W => letBy_any _ W (by rw [ext_size]; omega) (by rw [ext_drop, ext_size]; omega)
      have hpi : (p : Int) ≤ (s.size : Int) := by omega
      clear h hdr
      go_wp2_with fail
      refine (HL.out _).mono ?_
      rintro e wz ⟨rfl, rfl⟩
      go_wp2
      go_ret
      exact ⟨rfl, HB2.out⟩
    | bad hq hlt hb he => exact absurd rfl he
    | @step _ _ q k u l t n rest' _ _ hq hlt hb h0 hl hal hr =>
      have hjN : j < N := by
        have := congrArg List.length hdr
        rw [List.length_drop, HN.out] at this
        simp at this
        omega
      have hx : toks[j]? = some ⟨k, q, l, u, t, n⟩ := by
        have := congrArg (·[0]?) hdr
        simpa [List.getElem?_drop] using this
      have HD2 : Hid (toks.drop (j + 1) = rest') := by
        show _ = _
        have := congrArg List.tail hdr
        simpa [List.tail_drop] using this
      have HR3 : Hid (RunP s (q + l) (decide (k = 11)) rest' 0 0) := hr
      obtain ⟨A', c', e', hrt⟩ := HO2.out.rt
      obtain ⟨hA, hA2, hA3⟩ : A = A' ∧ N = toks.length ∧ c = c' := by simpa using e'
      subst hA
      clear e' hA2 hA3
      obtain ⟨g, rfl, hrd⟩ := hrt.resolve_left (fun e => by rw [e] at hx; simp at hx)
      obtain ⟨x0, x1, x2, x3, x4, x5⟩ := hrd j _ hx
      simp only at x0 x1 x2 x3 x4 x5
      have HL : Hid (∀ W : World, Calls Tryd.prog 16 #[.string (s.extract p q)] W fun e w' => e = .returned (.bool true) ∧ w' = W) := fun W => letBy_any _ W (by rw [ByteArray.size_extract]; omega) (by
        have hle := pastN_le false (s.data.toList.drop p)
        simp at hle
        rw [ByteArray.size_extract]
        have e : (s.extract p q).data.toList = (s.data.toList.drop p).take (pastN false (s.data.toList.drop p)) := by
          simp only [ByteArray.data_extract, Array.toList_extract, List.extract]
          congr 1
          omega
        rw [e, past_take]
        omega)
      have hpq : (p : Int) ≤ (q : Int) := by omega
      have hqs : (q : Int) ≤ (s.size : Int) := by omega
      have hls : (q : Int) + (l : Int) ≤ (s.size : Int) := by omega
      have hl1 : (1 : Int) ≤ (l : Int) := by omega
      have hjn : (j : Int) < (N : Int) := by omega
      have hsz : (s.size : Int) ≤ 32768 := by omega
      have d1 : decide ((q : Int) < (p : Int)) = false := by simp; omega
      have d2 : decide ((l : Int) < 1) = false := by simp; omega
      have d3 : decide ((s.size : Int) < (q : Int) + (l : Int)) = false := by simp; omega
      clear hdr hx hrd hrt hb hr hq
      by_cases ht : t = ⟨#[116, 104, 101, 110]⟩
      · subst ht
        have hth : ((⟨#[116, 104, 101, 110]⟩ : ByteArray).toList == [116, 104, 101, 110]) = true := by decide +kernel
        go_wp2_with fail
        refine (HL.out _).mono ?_
        rintro e wz ⟨rfl, rfl⟩
        go_wp2
        exact ⟨⟨j + 1, q + l, decide (k = 11), rest', by go_num, by simp, by omega, hl, HR3, HD2, HO2.out.alloc _, HB2.out.alloc HB2.out.size _⟩, by simp [intOf]; omega⟩
      · have hal2 := hal.resolve_left ht
        have hth : (t.toList == [116, 104, 101, 110]) = false := by
          rw [Lib.toList_data, beq_eq_false_iff_ne]
          intro e
          exact ht (by
            apply ByteArray.ext
            apply Array.toList_inj.1
            exact e)
        have HS : Hid (Run (s.extract q (q + l)) 0 true [⟨k, 0, l, u, t, n⟩] 0 0 ∧ (s.extract q (q + l)).size ≤ 32768) := ⟨hal2, by rw [ByteArray.size_extract]; omega⟩
        clear hal2 hal
        go_wp2_with fail
        refine (HL.out _).mono ?_
        rintro e wz ⟨rfl, rfl⟩
        go_wp2_with fail
        refine (scan_run (s.extract q (q + l)) _ 0 0 HS.out.2 HS.out.1 _).mono ?_
        rintro e w3 ⟨v3, rfl, hO3, hb3⟩
        rw [if_pos rfl] at hO3
        have HO3 : Hid (RT w3 v3 [⟨k, 0, l, u, t, n⟩]) := hO3.rt
        have HB3 : Hid (Below wr.heap.size wr w3) := (((Below.refl _ wr).alloc (Nat.le_refl _) _).alloc (by simp) _).trans (hb3.mono (by simp; omega))
        have HT3 : TB w3 (wr.heap.size + 1) k 0 l u t n := by
          have h1 := TB.new (wr.alloc (.cells #[.int .i64 k, .int .i64 q, .int .i64 l, .int .i64 u, .string t, .int .i64 n] 34)) k 0 l u t n
          rw [World.size_alloc] at h1
          exact h1.below hb3 (by simp)
        have HTa : ∀ o, TB (w3.alloc o) (wr.heap.size + 1) k 0 l u t n := fun o => (Below.heap_alloc _ _ _ HT3.lt).trans HT3
        have y0 := fun o => (HTa o).cells.1
        have y1 := fun o => (HTa o).cells.2.1
        have y2 := fun o => (HTa o).cells.2.2.1
        have y3 := fun o => (HTa o).cells.2.2.2.1
        have y4 := fun o => (HTa o).cells.2.2.2.2.1
        have y5 := fun o => (HTa o).cells.2.2.2.2.2
        clear HTa HT3
        clear hO3 hb3
        go_wp2_with fail
        have HLt := lit_T (w3.alloc (.cells #[.int .i64 0, .int .i64 0] 29)) [⟨k, 0, l, u, t, n⟩] 1
        rw [World.size_alloc] at HLt
        have HO4 := (HO3.out.below ((Below.refl _ w3).alloc (Nat.le_refl _) (.cells #[.int .i64 0, .int .i64 0] 29)) (Nat.le_refl _)).below ((Below.refl _ _).alloc (Nat.le_refl _) (.cells #[.int .i64 k, .int .i64 0, .int .i64 l, .int .i64 u, .string t, .int .i64 n] 34)) (Nat.le_refl _)
        have HB4 : Hid (Below wr.heap.size wr ((w3.alloc (.cells #[.int .i64 0, .int .i64 0] 29)).alloc (.cells #[.int .i64 k, .int .i64 0, .int .i64 l, .int .i64 u, .string t, .int .i64 n] 34))) := (HB3.out.alloc HB3.out.size _).alloc (by have := HB3.out.size; simp; omega) _
        refine (same_any v3 _ [⟨k, 0, l, u, t, n⟩] _ (by simp) HO4 HLt).mono ?_
        rintro e w5 ⟨rfl, hg⟩
        have HB5 : Hid (Below wr.heap.size wr w5) := HB4.out.trans (hg.below.mono HB4.out.size)
        clear hg HLt HO4 HB4 y0 y1 y2 y3 y4 y5
        go_wp2
        exact ⟨⟨j + 1, q + l, decide (k = 11), rest', by go_num, by simp, by omega, hl, HR3, HD2, HO2.out.below HB5.out (Nat.le_refl _), HB2.out.trans (HB5.out.mono HB2.out.size)⟩, by simp [intOf]; omega⟩
theorem placesLaw_any (s : ByteArray) (w : World) (hT : Tab w) (hs : s.size ≤ 9223372036854775807) : Calls Tryd.prog 5 #[.string s] w fun e w' => e = .returned (.bool true) ∧ Below w.heap.size w w' := by
  by_cases hl : 32768 < s.size
  · exact places_fault s 32768 2 w hT hs (by decide) (by omega) (fun W => scan_long s hl W)
  · obtain ⟨toks, fa, fe, hR, hfa⟩ := run_total s (by unfold maxLen; omega) s.size 0 true (by omega) (by omega)
    by_cases hfe : fe = 0
    · subst hfe
      have := hR.zero rfl
      subst this
      exact places_good s toks w hT (by omega) hR
    · refine places_fault s fa fe w hT hs hfe hfa (fun W => ?_)
      refine (scan_run s toks fa fe (by omega) hR.run W).mono ?_
      rintro e w' ⟨v, he, hv, hb⟩
      rw [if_neg hfe] at hv
      subst hv
      exact ⟨he, hb⟩
end Go.Proofs
