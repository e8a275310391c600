/-
  Several texts in one (Fd Fe Ff).
-/
import Derived.RangeFuncNested
import Derived.RangeFuncBound
import Derived.RangeFuncCalls
import Derived.RangeFuncLeaves
import Derived.Shelf.Abstract
import Derived.Shelf.RegionOpen
import Derived.WalkKit
import Derived.WalkSpells
import Derived.WalkLawsBesides
import Derived.OwnWalkIn
import Derived.TacticsInMore
import Derived.LoopNIn
import Derived.LoopIn
import Derived.BigQuiet
import Derived.RegionIn
import Derived.Deep.QuietTactic
import Derived.Deep.RegionWith
import Derived.Lib.OthersKept
import Derived.Maps.AppendAt
import Derived.Lib.SmallJoins
import Derived.Shelf.SlSortCmp.QuietGrown
import Derived.Test.YtkijbaofhodplaaDoorMgn
import Derived.Test.YtkijbaofhodplaaDoorXp
import Derived.Test.YtkijbaofhodplaaDoorBq
namespace Go.Proofs
open Go.RowKit Go.Shelf

set_option maxRecDepth 100000
attribute [local go_sem] Oper.semAt_some
attribute [local go_sem ↓] Go.wp_at_zero Go.wp_at_succ
theorem max_len : maxLen = 9223372036854775807 := rfl
set_option maxHeartbeats 1000000 in
theorem more_any (n k : Int) (w : World) (hn : 0 ≤ n) (hk : 0 ≤ k) : Calls Tryd.prog 26 #[.int .i64 n, .int .i64 k] w fun e w' => ∃ m, e = .returned (.int .i64 m) ∧ 0 ≤ m ∧ m ≤ 2147483648 ∧ w' = w := by
  by_cases h1 : 2147483647 < n
  · go_enter Tryd.func26, Tryd.ntmps26
    go_wp2
    exact bodyPost_ret (v := .int .i64 2147483648) (by simp [results, Tryd.f26, go_sem]) rfl ⟨_, rfl, by decide, by decide, rfl⟩
  · by_cases h2 : 2147483647 - n < k
    · go_enter Tryd.func26, Tryd.ntmps26
      go_wp2
      exact bodyPost_ret (v := .int .i64 2147483648) (by simp [results, Tryd.f26, go_sem]) rfl ⟨_, rfl, by decide, by decide, rfl⟩
    · have h3 : k ≤ 2147483647 := by omega
      go_enter Tryd.func26, Tryd.ntmps26
      go_wp2
      exact bodyPost_ret (v := .int .i64 (n + k)) (by simp [results, Tryd.f26, go_sem]) rfl ⟨_, rfl, by omega, by omega, rfl⟩
set_option maxHeartbeats 2000000 in
theorem setsItems_any (n : Int) (v : Value) (ls : List (List (Int × Int))) (w : World) (h : SR w v ls) (hn : 0 ≤ n) (hl : ls.length ≤ maxLen) : Calls Tryd.prog 25 #[.int .i64 n, v] w fun e w' => ∃ m, e = .returned (.int .i64 m) ∧ 0 ≤ m ∧ m ≤ 2147483648 ∧ w' = w := by
  obtain ⟨a, c, rfl, _, hr⟩ := h
  have HR : Hid (ls = [] ∨ ∃ g o, a = some ⟨g, o, none⟩ ∧ SRd w g o ls) := hr
  obtain ⟨N, hN⟩ : ∃ N, ls.length = N := ⟨_, rfl⟩
  have HN : Hid (ls.length = N) := hN
  rw [hN] at hl ⊢
  rw [max_len] at hl
  have hlI : (N : Int) ≤ 9223372036854775807 := by omega
  have hN0 : (0 : Int) ≤ (N : Int) := by omega
  have HM : Hid (∀ n k : Int, 0 ≤ n → 0 ≤ k → Calls Tryd.prog 26 #[.int .i64 n, .int .i64 k] w fun e w' => ∃ m, e = .returned (.int .i64 m) ∧ 0 ≤ m ∧ m ≤ 2147483648 ∧ w' = w) := fun n k h1 h2 => more_any n k w h1 h2
  clear hN hr
  go_enter Tryd.func25, Tryd.ntmps25
  go_wp2_with fail
  refine (HM.out n N hn hN0).mono ?_
  rintro e w' ⟨m0, rfl, hm0, hm1, hw⟩
  obtain rfl := hw.symm
  go_wp2
  go_loopw [0, 5] (fun vn vi wr => ∃ (k : Nat) (m : Int), vi = .int .i64 k ∧ vn = .int .i64 m ∧ k ≤ N ∧ 0 ≤ m ∧ m ≤ 2147483648 ∧ wr = w) (fun _ vi _ => N - (intOf vi).toNat)
  case atStart => exact ⟨0, m0, rfl, rfl, by omega, hm0, hm1, rfl⟩
  case round =>
    obtain ⟨k, m, rfl, rfl, hk, hm, hm', rfl⟩ := hrel
    have hk0 : (0 : Int) ≤ (k : Int) := by omega
    by_cases hlt : k < N
    · have hlt' : (k : Int) < (N : Int) := by omega
      by_cases hb : m ≤ 2147483647
      · as_aux_lemma =>
          have hkl : k < ls.length := by rw [HN.out]; exact hlt
          obtain ⟨g, o, rfl, hd⟩ := HR.out.resolve_left (fun e => by rw [e] at hkl; simp at hkl)
          obtain ⟨sv, hs, hsr⟩ := hd k hkl
          obtain ⟨s1, s2, s3, rfl⟩ := hsr.sl
          have hs0 : (0 : Int) ≤ (s2 : Int) := by omega
          clear hd hsr HR
          go_wp2_with fail
          refine (HM.out m s2 hm hs0).mono ?_
          rintro e w' ⟨m2, rfl, h2, h3, hw⟩
          obtain rfl := hw.symm
          go_wp2
          exact ⟨⟨k + 1, m2, by go_num, rfl, by omega, h2, h3, by first | rfl | trivial⟩, by simp [intOf]; omega⟩
      · as_aux_lemma =>
          go_wp2
          exact bodyPost_ret (v := .int .i64 m) (by simp [results, Tryd.f25, go_sem]) rfl ⟨_, rfl, hm, hm', rfl⟩
    · as_aux_lemma =>
        have hge : ¬ (k : Int) < (N : Int) := by omega
        go_wp2
        exact bodyPost_ret (v := .int .i64 m) (by simp [results, Tryd.f25, go_sem]) rfl ⟨_, rfl, hm, hm', rfl⟩
theorem copN_bound (l : List Pc) : 0 ≤ copN l ∧ copN l ≤ l.length := by
  induction l with
  | nil => simp [copN]
  | cons q l ih => simp only [copN, List.length_cons]; split <;> omega
theorem pc_at {w : World} {g o : Nat} {ps : List Pc} (h : PRd w g o ps) {j : Nat} (hj : j < ps.length) : ∃ tv, w.cell? ⟨g, o + j * 4, none⟩ = some (.int .i64 ps[j].k) ∧ w.cell? ⟨g, o + j * 4 + 1, none⟩ = some (.int .i64 ps[j].u) ∧ w.cell? ⟨g, o + j * 4 + 2, none⟩ = some (.int .i64 ps[j].y) ∧ w.cell? ⟨g, o + j * 4 + 3, none⟩ = some tv ∧ Rs w tv ps[j].tl := h j hj
set_option maxHeartbeats 2000000 in
theorem goners_any (r : Rl) (av kv pv rv : Value) (w : World) (h : RR w av kv pv rv r) (hO : Ok r) : Calls Tryd.prog 24 #[.agg #[.bool r.bg, av, kv, pv, .bool r.en, rv, .int .i64 r.cu]] w fun e w' => e = .returned (.int .i64 ((r.key.length : Int) - 1 - copN (backP r))) ∧ Grown w w' := by
  obtain ⟨cu, hcu⟩ : ∃ cu : Nat, r.cu = cu := ⟨r.cu.toNat, by have := hO.c0; omega⟩
  have hB : backP r = r.res.drop cu := by unfold backP; rw [hcu]; simp
  have hcl : cu ≤ r.res.length := by have := hO.c1; rw [hcu] at this; omega
  have h16 := hO.r16
  have hk8 := hO.k8
  obtain ⟨a1, n1, c1, rfl⟩ := h.a.sl
  obtain ⟨ka, kc, hkv, _, _⟩ := h.k
  obtain ⟨a3, n3, c3, rfl⟩ := h.p.sl
  obtain ⟨ra, rc, hrv, _, hr⟩ := h.r
  subst hkv hrv
  rw [hcu, hB]
  have HR : Hid (r.res = [] ∨ ∃ g o, ra = some ⟨g, o, none⟩ ∧ PRd w g o r.res) := hr
  obtain ⟨N, hN⟩ : ∃ N, r.res.length = N := ⟨_, rfl⟩
  have HN : Hid (r.res.length = N) := hN
  obtain ⟨kn, hkn⟩ : ∃ kn, r.key.length = kn := ⟨_, rfl⟩
  rw [hkn] at hk8 ⊢
  rw [hN] at hcl h16 ⊢
  have hNI : (N : Int) ≤ 16 := by omega
  have hkI : (0 : Int) ≤ (kn : Int) ∧ (kn : Int) ≤ 8 := by omega
  have hc0 : (0 : Int) ≤ (cu : Int) ∧ (cu : Int) ≤ (N : Int) := by omega
  generalize r.bg = xb
  generalize r.en = xe
  obtain ⟨R, hRR⟩ : ∃ R, (kn : Int) - 1 - copN (r.res.drop cu) = R := ⟨_, rfl⟩
  have HRR : Hid ((kn : Int) - 1 - copN (r.res.drop cu) = R) := hRR
  rw [hRR]
  clear hN hr hkn h hO hB hRR hcu
  go_enter Tryd.func24, Tryd.ntmps24
  go_wp2
  go_loopw [3, 4] (fun vn vi wr => ∃ (k : Nat) (m : Int), vi = .int .i64 k ∧ vn = .int .i64 m ∧ cu ≤ k ∧ k ≤ N ∧ Hid (m = (kn : Int) - 1 - copN ((r.res.drop cu).take (k - cu))) ∧ -100 ≤ m ∧ m ≤ 100 ∧ wr = w.alloc (.cells #[.bool xb, .slice a1 n1 c1, .slice ka kn kc, .slice a3 n3 c3, .bool xe, .slice ra N rc, .int .i64 cu] 54)) (fun _ vi _ => N - (intOf vi).toNat)
  case atStart => exact ⟨cu, (kn : Int) - 1, rfl, rfl, Nat.le_refl _, hcl, by show _ = _; rw [Nat.sub_self]; simp [copN], by omega, by omega, rfl⟩
  case round =>
    obtain ⟨k, m, rfl, rfl, hck, hk, HM, hm1, hm2, rfl⟩ := hrel
    have hk0 : (0 : Int) ≤ (k : Int) := by omega
    by_cases hlt : k < N
    · have hlt' : (k : Int) < (N : Int) := by omega
      have hkl : k < r.res.length := by rw [HN.out]; exact hlt
      obtain ⟨g, o, rfl, hd⟩ := HR.out.resolve_left (fun e => by rw [e] at hkl; simp at hkl)
      obtain ⟨tv, x0, _⟩ := pc_at hd hkl
      have y0 := fun ob => cell_up x0 ob
      have hst : (r.res.drop cu).take (k + 1 - cu) = (r.res.drop cu).take (k - cu) ++ [r.res[k]] := by
        have hk3 : k - cu < (r.res.drop cu).length := by simp; omega
        rw [show k + 1 - cu = (k - cu) + 1 by omega, List.take_add_one, List.getElem?_eq_getElem hk3]
        congr 1
        simp only [List.getElem_drop, Option.toList_some]
        congr 2
        omega
      have HS : Hid ((kn : Int) - 1 - copN ((r.res.drop cu).take (k + 1 - cu)) = m - (if r.res[k].k = 2 then 1 else 0)) := by
        show _ = _
        rw [hst, copN_snoc, HM.out]; omega
      have hb := copN_bound ((r.res.drop cu).take (k + 1 - cu))
      have hbl : ((r.res.drop cu).take (k + 1 - cu)).length ≤ 16 := by simp; omega
      have HB2 : Hid (-100 ≤ (kn : Int) - 1 - copN ((r.res.drop cu).take (k + 1 - cu)) ∧ (kn : Int) - 1 - copN ((r.res.drop cu).take (k + 1 - cu)) ≤ 100) := ⟨by omega, by omega⟩
      clear hst hb hbl hd x0 HM
      generalize r.res[k].k = pk at *
      by_cases h2 : pk = 2
      · as_aux_lemma =>
          subst h2
          have HF : Hid (m - 1 = (kn : Int) - 1 - copN ((r.res.drop cu).take (k + 1 - cu))) := by have := HS.out; simp only [if_true] at this; exact this.symm
          go_wp2
          exact ⟨⟨k + 1, m - 1, by go_num, rfl, by omega, by omega, HF, by rw [HF.out]; exact HB2.out.1, by rw [HF.out]; exact HB2.out.2, by first | rfl | trivial⟩, by simp [intOf]; omega⟩
      · as_aux_lemma =>
          have h2' : (pk == 2) = false := by simpa using h2
          have HF : Hid (m = (kn : Int) - 1 - copN ((r.res.drop cu).take (k + 1 - cu))) := by have := HS.out; rw [if_neg h2] at this; show m = _; omega
          go_wp2
          exact ⟨⟨k + 1, m, by go_num, rfl, by omega, by omega, HF, hm1, hm2, by first | rfl | trivial⟩, by simp [intOf]; omega⟩
    · as_aux_lemma =>
        have hge : ¬ (k : Int) < (N : Int) := by omega
        have HF : Hid (m = R) := by
          show m = R
          rw [HM.out, ← HRR.out, List.take_of_length_le (by have := HN.out; simp; omega)]
        clear HM
        go_wp2
        go_ret
        exact ⟨by rw [HF.out]; rfl, (Grown.refl _).alloc _⟩
def BeyQ (w : World) (e : Ending) (w' : World) : Prop := ∃ b : Bool, e = .returned (.bool b) ∧ Grown w w'
set_option maxHeartbeats 8000000 in
theorem beyond_any (v : Value) (rs : List Rl) (w : World) (h : PsR w v rs) (hl : rs.length ≤ maxLen) (hz : ∀ r ∈ rs, Go.Proofs.YtkijbaofhodplaaDoor.Lz r) : Calls Tryd.prog 7 #[.agg #[v]] w (BeyQ w) := by
  have HP : Hid (∀ W, Grown w W → PsR W v rs) := fun W hW => h.grown hW
  have HZ : Hid (∀ r ∈ rs, Go.Proofs.YtkijbaofhodplaaDoor.Lz r) := hz
  obtain ⟨ra, rc, rfl, _, _⟩ := h
  obtain ⟨N, hN⟩ : ∃ N, rs.length = N := ⟨_, rfl⟩
  have HN : Hid (rs.length = N) := hN
  rw [hN] at hl HP ⊢
  rw [max_len] at hl
  have hlI : (N : Int) ≤ 9223372036854775807 := by omega
  have hN0 : (0 : Int) ≤ (N : Int) := by omega
  clear hN hz
  go_enter Tryd.func7, Tryd.ntmps7
  go_wp2
  go_loopw [3, 4] (fun vn vi wr => ∃ (k : Nat) (m : Int), vi = .int .i64 k ∧ vn = .int .i64 m ∧ k ≤ N ∧ 0 ≤ m ∧ m ≤ 9223372036854775807 ∧ Grown (w.alloc (.cells #[.slice ra N rc] 24)) wr) (fun _ vi _ => N - (intOf vi).toNat)
  case atStart => exact ⟨0, N, rfl, rfl, by omega, by omega, by omega, Grown.refl _⟩
  case round =>
    obtain ⟨k, m, rfl, rfl, hk, hm, hm', hG⟩ := hrel
    have hk0 : (0 : Int) ≤ (k : Int) := by omega
    have c0 := hG.cellv (a := ⟨w.heap.size, 0, none⟩) (v := .slice ra N rc) (by simp)
    by_cases hlt : k < N
    · have hlt' : (k : Int) < (N : Int) := by omega
      by_cases hb : m ≤ 2147483647
      · have hkl : k < rs.length := by rw [HN.out]; exact hlt
        have hG0 : Grown w wr := ((Grown.refl w).alloc _).trans hG
        have hLz := HZ.out _ (List.getElem_mem hkl)
        obtain ⟨a', c', e', _, hPr⟩ := HP.out wr hG0
        obtain ⟨g, o, ha', hRA⟩ := hPr.resolve_left (fun e => by rw [e] at hkl; simp at hkl)
        injection e' with q1 q2 q3
        clear q2 q3
        rw [ha'] at q1
        subst q1
        obtain ⟨av, kv, pv, rv, r0, r1, r2, r3, r4, r5, r6, hR⟩ := hRA k hkl
        have HRA : Hid (∀ W, Grown wr W → SR W av rs[k].ante ∧ SR W kv rs[k].key ∧ SR W pv rs[k].post ∧ PR W rv rs[k].res) := fun W hW => ⟨hR.a.grown hW, hR.k.grown hW, hR.p.grown hW, hR.r.grown hW⟩
        have HL : Hid (rs[k].ante.length ≤ maxLen ∧ rs[k].key.length ≤ maxLen ∧ rs[k].post.length ≤ maxLen ∧ rs[k].res.length ≤ maxLen) := ⟨hLz.na, hLz.nk, hLz.np, hLz.nr⟩
        obtain ⟨a1, n1, c1, rfl⟩ := hR.a.sl
        obtain ⟨a2, n2, c2, rfl⟩ := hR.k.sl
        obtain ⟨a3, n3, c3, rfl⟩ := hR.p.sl
        obtain ⟨a5, c5, hrv, _, hrr⟩ := hR.r
        subst hrv
        have HRR : Hid (rs[k].res = [] ∨ ∃ g o, a5 = some ⟨g, o, none⟩ ∧ PRd wr g o rs[k].res) := hrr
        obtain ⟨n5, hn5⟩ : ∃ n5, rs[k].res.length = n5 := ⟨_, rfl⟩
        have HN5 : Hid (rs[k].res.length = n5) := hn5
        rw [hn5] at r5 HRA HL
        have hn5I : (n5 : Int) ≤ 9223372036854775807 := by have := HL.out.2.2.2; rw [max_len] at this; omega
        have hn50 : (0 : Int) ≤ (n5 : Int) := by omega
        have HG : Hid (Grown (w.alloc (.cells #[.slice (some ⟨g, o, none⟩) N rc] 24)) wr) := hG
        generalize rs[k].bg = xb at *
        generalize rs[k].en = xe at *
        generalize rs[k].cu = xc at *
        obtain ⟨W5, hW5⟩ : ∃ W5, W5 = wr.alloc (.cells #[.bool xb, .slice a1 n1 c1, .slice a2 n2 c2, .slice a3 n3 c3, .bool xe, .slice a5 n5 c5, .int .i64 xc] 54) := ⟨_, rfl⟩
        have hG5 : Grown wr W5 := by rw [hW5]; exact (Grown.refl _).alloc _
        have HS1 : Hid (∀ m : Int, 0 ≤ m → Calls Tryd.prog 25 #[.int .i64 m, .slice a1 n1 c1] W5 fun e w' => ∃ x, e = .returned (.int .i64 x) ∧ 0 ≤ x ∧ x ≤ 2147483648 ∧ w' = W5) := fun m h => setsItems_any m _ _ W5 (HRA.out W5 hG5).1 h HL.out.1
        have HS2 : Hid (∀ m : Int, 0 ≤ m → Calls Tryd.prog 25 #[.int .i64 m, .slice a2 n2 c2] W5 fun e w' => ∃ x, e = .returned (.int .i64 x) ∧ 0 ≤ x ∧ x ≤ 2147483648 ∧ w' = W5) := fun m h => setsItems_any m _ _ W5 (HRA.out W5 hG5).2.1 h HL.out.2.1
        have HS3 : Hid (∀ m : Int, 0 ≤ m → Calls Tryd.prog 25 #[.int .i64 m, .slice a3 n3 c3] W5 fun e w' => ∃ x, e = .returned (.int .i64 x) ∧ 0 ≤ x ∧ x ≤ 2147483648 ∧ w' = W5) := fun m h => setsItems_any m _ _ W5 (HRA.out W5 hG5).2.2.1 h HL.out.2.2.1
        have HM : Hid (∀ n k : Int, 0 ≤ n → 0 ≤ k → Calls Tryd.prog 26 #[.int .i64 n, .int .i64 k] W5 fun e w' => ∃ m, e = .returned (.int .i64 m) ∧ 0 ≤ m ∧ m ≤ 2147483648 ∧ w' = W5) := fun n k h1 h2 => more_any n k W5 h1 h2
        have HPR : Hid (rs[k].res = [] ∨ ∃ g o, a5 = some ⟨g, o, none⟩ ∧ PRd W5 g o rs[k].res) := HRR.out.imp id fun ⟨g, o, h1, h2⟩ => ⟨g, o, h1, h2.grown hG5⟩
        have b5 : W5.heap[wr.heap.size]? = some (.cells #[.bool xb, .slice a1 n1 c1, .slice a2 n2 c2, .slice a3 n3 c3, .bool xe, .slice a5 n5 c5, .int .i64 xc] 54 (0, 0)) := by rw [hW5]; exact heap_alloc_new _ _
        have p1 : W5.cell? ⟨wr.heap.size, 1, none⟩ = some (.slice a1 n1 c1) := by rw [cell_of b5]; rfl
        have p2 : W5.cell? ⟨wr.heap.size, 2, none⟩ = some (.slice a2 n2 c2) := by rw [cell_of b5]; rfl
        have p3 : W5.cell? ⟨wr.heap.size, 3, none⟩ = some (.slice a3 n3 c3) := by rw [cell_of b5]; rfl
        have p5 : W5.cell? ⟨wr.heap.size, 5, none⟩ = some (.slice a5 n5 c5) := by rw [cell_of b5]; rfl
        have HG5 : Hid (Grown wr W5) := hG5
        clear hR hrr hn5 hRA hPr ha' hG hG5 b5 HRA HRR hLz hG0
        go_wp2_with fail
        rw [← hW5]
        clear hW5 r0 r1 r2 r3 r4 r5 r6 c0
        refine (HS1.out m hm).mono ?_
        rintro e w' ⟨m1, rfl, h10, h11, hw⟩
        obtain rfl := hw.symm
        go_wp2_with fail
        refine (HS2.out m1 h10).mono ?_
        rintro e w' ⟨m2, rfl, h20, h21, hw⟩
        obtain rfl := hw.symm
        go_wp2_with fail
        refine (HS3.out m2 h20).mono ?_
        rintro e w' ⟨m3, rfl, h30, h31, hw⟩
        obtain rfl := hw.symm
        go_wp2_with fail
        refine (HM.out m3 n5 h30 hn50).mono ?_
        rintro e w' ⟨m4, rfl, h40, h41, hw⟩
        obtain rfl := hw.symm
        obtain ⟨wo, hwo⟩ : ∃ wo, wo = wr := ⟨_, rfl⟩
        rw [← hwo]
        rw [← hwo] at p1 p2 p3 p5 HG HG5
        clear HS1 HS2 HS3 hwo
        go_wp2
        go_loopw [3, 6] (fun vn vj wx => ∃ (j : Nat) (x : Int), vj = .int .i64 j ∧ vn = .int .i64 x ∧ j ≤ n5 ∧ 0 ≤ x ∧ x ≤ 2147483648 ∧ wx = W5) (fun _ vj _ => n5 - (intOf vj).toNat)
        case atStart => exact ⟨0, m4, rfl, rfl, by omega, h40, h41, rfl⟩
        case round =>
          obtain ⟨j, x, rfl, rfl, hj, hx, hx', hwx⟩ := hrel
          obtain rfl := hwx.symm
          have hj0 : (0 : Int) ≤ (j : Int) := by omega
          have HK : Hid (k + 1 ≤ N ∧ n5 - j ≥ 0) := ⟨hlt, by omega⟩
          by_cases hjl : j < n5
          · have hjl' : (j : Int) < (n5 : Int) := by omega
            by_cases hxb : x ≤ 2147483647
            · as_aux_lemma =>
                have hjr : j < rs[k].res.length := by rw [HN5.out]; exact hjl
                obtain ⟨pg, po, rfl, hd⟩ := HPR.out.resolve_left (fun e => by rw [e] at hjr; simp at hjr)
                obtain ⟨tv, _, _, _, x3, hrs⟩ := pc_at hd hjr
                obtain ⟨t1, t2, t3, rfl⟩ := hrs.sl
                have ht0 : (0 : Int) ≤ (t2 : Int) := by omega
                clear hd hrs HPR
                go_wp2_with fail
                refine (HM.out x t2 hx ht0).mono ?_
                rintro e w' ⟨m5, rfl, h50, h51, hw⟩
                obtain rfl := hw.symm
                go_wp2
                exact ⟨⟨j + 1, m5, by go_num, rfl, by omega, h50, h51, by first | rfl | trivial⟩, by simp [intOf]; omega⟩
            · as_aux_lemma =>
                go_wp2
                exact ⟨⟨k + 1, x, by go_num, rfl, hlt, hx, by omega, HG.out.trans HG5.out⟩, by simp [intOf]; omega⟩
          · as_aux_lemma =>
              have hge : ¬ (j : Int) < (n5 : Int) := by omega
              go_wp2
              exact ⟨⟨k + 1, x, by go_num, rfl, hlt, hx, by omega, HG.out.trans HG5.out⟩, by simp [intOf]; omega⟩
      · as_aux_lemma =>
          go_wp2
          go_ret
          exact ⟨_, rfl, ((Grown.refl w).alloc _).trans hG⟩
    · as_aux_lemma =>
        have hge : ¬ (k : Int) < (N : Int) := by omega
        go_wp2
        go_ret
        exact ⟨_, rfl, ((Grown.refl w).alloc _).trans hG⟩
theorem wgtP_bnd (rs : List Rl) (u : Int) : 0 ≤ wgtP rs u ∧ wgtP rs u ≤ 64 := by
  obtain ⟨o, c, ho⟩ : ∃ o c, wgh rs = (o, c) := ⟨_, _, rfl⟩
  cases o with
  | none => unfold wgtP; rw [ho]; simp
  | some st =>
    rw [wgtP_eq ho]
    have hf := wgh_fin ho
    have := wgtK_bound (rs := rs) (ws := st.ws) (u := u) (fun i hi => hf.run.ok.wb i (by rw [csI_len]; exact hi)) rs.length (Nat.le_refl _)
    split <;> omega
/-- the greatest weight of the first k ranges' ends -/
def pM (rs : List Rl) (l : List (Int × Int)) (k : Nat) : Int := (l.take k).foldl (fun m x => max (max m (wgtP rs x.1)) (wgtP rs x.2)) 0
theorem pM_succ (rs : List Rl) (l : List (Int × Int)) {k : Nat} (h : k < l.length) : pM rs l (k + 1) = max (max (pM rs l k) (wgtP rs (rg l k).1)) (wgtP rs (rg l k).2) := by
  unfold pM
  rw [foldl_succ _ _ _ h, rg_lt h]
theorem pM_bnd (rs : List Rl) (l : List (Int × Int)) : ∀ k, k ≤ l.length → 0 ≤ pM rs l k ∧ pM rs l k ≤ 64
  | 0, _ => by simp [pM]
  | k + 1, h => by
    have ih := pM_bnd rs l k (by omega)
    rw [pM_succ rs l (by omega)]
    have h1 := wgtP_bnd rs (rg l k).1
    have h2 := wgtP_bnd rs (rg l k).2
    omega
theorem pairM_eq (rs : List Rl) (l : List (Int × Int)) : pairM rs l = pM rs l (min 20 l.length) := by
  unfold pairM pM
  by_cases h : l.length ≤ 20
  · rw [Nat.min_eq_right h, List.take_of_length_le h, List.take_of_length_le (Nat.le_refl _)]
  · rw [Nat.min_eq_left (by omega)]
def bk1 (rs : List Rl) (p : Pc) : Int := if p.k = 1 then wgtP rs p.u else if p.k = 3 then pairM rs p.tl else 0
theorem bk1_bnd (rs : List Rl) (p : Pc) : 0 ≤ bk1 rs p ∧ bk1 rs p ≤ 64 := by
  unfold bk1
  split
  · exact wgtP_bnd _ _
  · split
    · rw [pairM_eq]; exact pM_bnd _ _ _ (Nat.min_le_right _ _)
    · omega
theorem bkS_snoc (rs : List Rl) (l : List Pc) (p : Pc) : bkS rs (l ++ [p]) = bkS rs l + bk1 rs p := by
  induction l with
  | nil => simp [bkS, bk1]
  | cons q l ih => simp only [List.cons_append, bkS, ih]; omega
theorem bkS_bnd (rs : List Rl) (l : List Pc) : 0 ≤ bkS rs l ∧ bkS rs l ≤ 64 * l.length := by
  induction l with
  | nil => simp [bkS]
  | cons q l ih =>
    have := bk1_bnd rs q
    unfold bk1 at this
    simp only [bkS, List.length_cons]
    omega
set_option maxHeartbeats 8000000 in
theorem backs_any (v : Value) (rs : List Rl) (r : Rl) (av kv pv rv : Value) (w : World) (hT : Tab w) (hP : PsR w v rs) (hR : RR w av kv pv rv r) (hO : Ok r) :
    Calls Tryd.prog 23 #[.agg #[v], .agg #[.bool r.bg, av, kv, pv, .bool r.en, rv, .int .i64 r.cu]] w fun e w' => e = .returned (.int .i64 (bkS rs (backP r))) ∧ Below w.heap.size w w' := by
  obtain ⟨cu, hcu⟩ : ∃ cu : Nat, r.cu = cu := ⟨r.cu.toNat, by have := hO.c0; omega⟩
  have hB : backP r = r.res.drop cu := by unfold backP; rw [hcu]; simp
  have hcl : cu ≤ r.res.length := by have := hO.c1; rw [hcu] at this; omega
  have h16 := hO.r16
  have HT : Hid (Tab w) := hT
  have HP : Hid (PsR w v rs) := hP
  have HTL : Hid (∀ p ∈ r.res, p.k = 3 → p.tl.length ≤ 512) := fun p hp h3 => by
    rcases pc_ok (hO.pc p hp) with ⟨h1, _⟩ | ⟨h1, _⟩ | ⟨_, _, _, _, hm⟩
    · omega
    · omega
    · unfold matB at hm
      simp only [Bool.and_eq_true] at hm
      exact ((validB_iff _).1 hm.1).1
  obtain ⟨va, vc, hv, _, _⟩ := hP
  obtain ⟨vn, hvn⟩ : ∃ vn, rs.length = vn := ⟨_, rfl⟩
  rw [hvn] at hv
  subst hv
  obtain ⟨a1, n1, c1, rfl⟩ := hR.a.sl
  obtain ⟨ka, kn, kc, rfl⟩ := hR.k.sl
  obtain ⟨a3, n3, c3, rfl⟩ := hR.p.sl
  obtain ⟨ra, rc, hrv, _, hr⟩ := hR.r
  subst hrv
  rw [hcu, hB]
  have HR : Hid (r.res = [] ∨ ∃ g o, ra = some ⟨g, o, none⟩ ∧ PRd w g o r.res) := hr
  obtain ⟨N, hN⟩ : ∃ N, r.res.length = N := ⟨_, rfl⟩
  have HN : Hid (r.res.length = N) := hN
  rw [hN] at hcl h16 ⊢
  have hNI : (N : Int) ≤ 16 := by omega
  have hc0 : (0 : Int) ≤ (cu : Int) ∧ (cu : Int) ≤ (N : Int) := by omega
  generalize r.bg = xb
  generalize r.en = xe
  obtain ⟨R, hRR⟩ : ∃ R, bkS rs (r.res.drop cu) = R := ⟨_, rfl⟩
  have HRR : Hid (bkS rs (r.res.drop cu) = R) := hRR
  rw [hRR]
  have HW : Hid (∀ (W : World) (u : Int), Below w.heap.size w W → Calls Tryd.prog 14 #[.agg #[.slice va vn vc], .int .i64 u] W fun e w' => e = .returned (.int .i64 (wgtP rs u)) ∧ Below W.heap.size W w') := fun W u hb => wweight_any _ rs u W (HT.out.below hb HT.out.pos) (HP.out.below hb (Nat.le_refl _))
  obtain ⟨W0, hW0⟩ : ∃ W0, W0 = (w.alloc (.cells #[.slice va vn vc] 24)).alloc (.cells #[.bool xb, .slice a1 n1 c1, .slice ka kn kc, .slice a3 n3 c3, .bool xe, .slice ra N rc, .int .i64 cu] 54) := ⟨_, rfl⟩
  have HSZ : Hid (W0.heap.size = w.heap.size + 2) := by show _ = _; rw [hW0]; simp
  have HG0 : Hid (Grown w W0) := by show Grown _ _; rw [hW0]; exact ((Grown.refl _).alloc _).alloc _
  have d0 : W0.cell? ⟨w.heap.size, 0, none⟩ = some (.slice va vn vc) := by rw [hW0]; simp
  have d5 : W0.cell? ⟨w.heap.size + 1, 5, none⟩ = some (.slice ra N rc) := by rw [hW0]; simp
  clear hN hr hR hO hB hRR hcu hT hvn
  go_enter Tryd.func23, Tryd.ntmps23
  go_wp2
  rw [← hW0]
  clear hW0
  go_loopw [5, 6] (fun vn' vi wr => ∃ (k : Nat) (m : Int), vi = .int .i64 k ∧ vn' = .int .i64 m ∧ cu ≤ k ∧ k ≤ N ∧ Hid (m = bkS rs ((r.res.drop cu).take (k - cu))) ∧ Hid (Below W0.heap.size W0 wr)) (fun _ vi _ => N - (intOf vi).toNat)
  case atStart => exact ⟨cu, 0, rfl, rfl, Nat.le_refl _, hcl, by show _ = _; rw [Nat.sub_self]; simp [bkS], Below.refl _ _⟩
  case round =>
    obtain ⟨k, m, rfl, rfl, hck, hk, HM, HBW⟩ := hrel
    have hk0 : (0 : Int) ≤ (k : Int) := by omega
    have e0 := cell_below d0 HBW.out (Nat.le_refl _)
    have e5 := cell_below d5 HBW.out (Nat.le_refl _)
    by_cases hlt : k < N
    · have hlt' : (k : Int) < (N : Int) := by omega
      have hkl : k < r.res.length := by rw [HN.out]; exact hlt
      have HBw : Hid (Below w.heap.size w wr) := HG0.out.below.trans (HBW.out.mono HG0.out.size)
      obtain ⟨g, o, rfl, hd⟩ := HR.out.resolve_left (fun e => by rw [e] at hkl; simp at hkl)
      obtain ⟨tv, x0, x1, x2, x3, hrs⟩ := pc_at hd hkl
      have y0 := cell_below x0 HBw.out (Nat.le_refl _)
      have y1 := cell_below x1 HBw.out (Nat.le_refl _)
      have y2 := cell_below x2 HBw.out (Nat.le_refl _)
      have y3 := cell_below x3 HBw.out (Nat.le_refl _)
      have hst : (r.res.drop cu).take (k + 1 - cu) = (r.res.drop cu).take (k - cu) ++ [r.res[k]] := by
        have hk3 : k - cu < (r.res.drop cu).length := by simp; omega
        rw [show k + 1 - cu = (k - cu) + 1 by omega, List.take_add_one, List.getElem?_eq_getElem hk3]
        congr 1
        simp only [List.getElem_drop, Option.toList_some]
        congr 2
        omega
      have HS : Hid (bkS rs ((r.res.drop cu).take (k + 1 - cu)) = m + bk1 rs r.res[k]) := by
        show _ = _
        rw [hst, bkS_snoc, HM.out]
      have hb := bkS_bnd rs ((r.res.drop cu).take (k - cu))
      have hbl : ((r.res.drop cu).take (k - cu)).length ≤ 16 := by simp; omega
      have hmb : 0 ≤ m ∧ m ≤ 1024 := by rw [HM.out]; omega
      have htl := HTL.out _ (List.getElem_mem hkl)
      have HRs : Hid (Rs w tv r.res[k].tl) := hrs
      obtain ⟨t1, t2, t3, rfl⟩ := hrs.sl
      obtain ⟨p, hp⟩ : ∃ p, r.res[k] = p := ⟨_, rfl⟩
      rw [hp] at y0 y1 y2 HS htl HRs
      obtain ⟨pk, hpk⟩ : ∃ pk, p.k = pk := ⟨_, rfl⟩
      obtain ⟨pu, hpu⟩ : ∃ pu, p.u = pu := ⟨_, rfl⟩
      obtain ⟨py, hpy⟩ : ∃ py, p.y = py := ⟨_, rfl⟩
      have HPK : Hid (p.k = pk ∧ p.u = pu) := ⟨hpk, hpu⟩
      rw [hpk] at y0 htl
      rw [hpu] at y1
      rw [hpy] at y2
      obtain ⟨V1, hV1⟩ : ∃ V1, V1 = wr.alloc (.cells #[.int .i64 pk, .int .i64 pu, .int .i64 py, .slice t1 t2 t3] 66) := ⟨_, rfl⟩
      have HV1 : Hid (Below w.heap.size w V1 ∧ Below W0.heap.size W0 V1) := by
        have hg : Grown wr V1 := by rw [hV1]; exact (Grown.refl _).alloc _
        exact ⟨HBw.out.trans (hg.below.mono HBw.out.size), HBW.out.trans (hg.below.mono HBW.out.size)⟩
      clear hst hb hbl hd x0 x1 x2 x3 HM hrs hp hpk hpu hpy
      by_cases h1 : pk = 1
      · as_aux_lemma =>
          subst h1
          have hwb := wgtP_bnd rs pu
          have HF : Hid (m + wgtP rs pu = bkS rs ((r.res.drop cu).take (k + 1 - cu))) := by
            show _ = _
            rw [HS.out, bk1, if_pos HPK.out.1, HPK.out.2]
          have HC := HW.out V1 pu HV1.out.1
          rw [hV1] at HC
          have HCC : Hid (Calls Tryd.prog 14 #[.agg #[.slice va vn vc], .int .i64 pu] (wr.alloc (.cells #[.int .i64 1, .int .i64 pu, .int .i64 py, .slice t1 t2 t3] 66)) fun e w' => e = .returned (.int .i64 (wgtP rs pu)) ∧ Below W0.heap.size W0 w') := HC.mono fun _ _ ⟨h1, h2⟩ => ⟨h1, by
            have hb1 := HV1.out.2
            rw [hV1] at hb1
            exact hb1.trans (h2.mono hb1.size)⟩
          clear HC HW HS
          have e0' := fun ob => cell_up e0 ob
          generalize wgtP rs pu = wp at *
          go_wp2_with (go_at_call 14; refine HCC.out.mono ?_; rintro e w' ⟨rfl, hb⟩)
          exact ⟨⟨k + 1, m + wp, by go_num, rfl, by omega, by omega, HF, hb⟩, by simp [intOf]; omega⟩
      · have h1' : (pk == 1) = false := by simpa using h1
        by_cases h3 : pk = 3
        · subst h3
          have hl512 := htl rfl
          obtain ⟨ta', tc', ht', _, htr⟩ := HRs.out
          have ht2 : t2 = p.tl.length := by injection ht'
          have hta : t1 = ta' := by injection ht'
          subst hta
          have HT2 : Hid (t2 = p.tl.length) := ht2
          have ht2I : (t2 : Int) ≤ 512 := by omega
          have ht20 : (0 : Int) ≤ (t2 : Int) := by omega
          have HTR : Hid (p.tl = [] ∨ ∃ g o, t1 = some ⟨g, o, none⟩ ∧ Reads w g o p.tl) := htr
          have b1 : V1.heap[wr.heap.size]? = some (.cells #[.int .i64 3, .int .i64 pu, .int .i64 py, .slice t1 t2 t3] 66 (0, 0)) := by rw [hV1]; exact heap_alloc_new _ _
          have f3 : V1.cell? ⟨wr.heap.size, 3, none⟩ = some (.slice t1 t2 t3) := by rw [cell_of b1]; rfl
          have f0 : V1.cell? ⟨w.heap.size, 0, none⟩ = some (.slice va vn vc) := by rw [hV1]; exact cell_up e0 _
          have HFS : Hid (m + pM rs p.tl (min 20 t2) = bkS rs ((r.res.drop cu).take (k + 1 - cu))) := by
            show _ = _
            rw [HS.out, bk1, if_neg (by rw [HPK.out.1]; decide), if_pos HPK.out.1, pairM_eq, HT2.out]
          obtain ⟨B7, hB7⟩ : ∃ B7, wr.heap.size = B7 := ⟨_, rfl⟩
          rw [hB7] at f3
          have HNk : Hid (k + 1 ≤ N ∧ cu ≤ k) := ⟨hlt, hck⟩
          clear ht' ht2 htr htl hl512 b1 HS
          go_wp2
          rw [← hV1]
          clear hV1 hB7 y0 y1 y2 y3 e0 e5 HBw HBW
          go_loopw [8, 9] (fun vm vj wx => ∃ (j : Nat) (x : Int), vj = .int .i64 j ∧ vm = .int .i64 x ∧ j ≤ min 20 t2 ∧ Hid (x = pM rs p.tl j) ∧ Hid (Below V1.heap.size V1 wx)) (fun _ vj _ => 20 - (intOf vj).toNat)
          case atStart => exact ⟨0, 0, rfl, rfl, by omega, by show _ = _; simp [pM], Below.refl _ _⟩
          case round =>
            obtain ⟨j, x, rfl, rfl, hj, HX, HBV⟩ := hrel
            have hj0 : (0 : Int) ≤ (j : Int) := by omega
            have hj20 : (j : Int) ≤ 20 := by omega
            have g3 := cell_below f3 HBV.out (Nat.le_refl _)
            have g0 := cell_below f0 HBV.out (Nat.le_refl _)
            have HBwx : Hid (Below w.heap.size w wr) := HV1.out.1.trans (HBV.out.mono HV1.out.1.size)
            by_cases hjt : j < t2
            · have hjt' : (j : Int) < (t2 : Int) := by omega
              by_cases hj2 : j < 20
              · have hj2' : (j : Int) < 20 := by omega
                have hjl : j < p.tl.length := by rw [← HT2.out]; exact hjt
                obtain ⟨tg, tof, rfl, hrd⟩ := HTR.out.resolve_left (fun e => by rw [e] at hjl; simp at hjl)
                obtain ⟨q1, q2⟩ := hrd j hjl
                have z1 := cell_below q1 HBwx.out (Nat.le_refl _)
                have z2 := cell_below q2 HBwx.out (Nat.le_refl _)
                have HPS : Hid (pM rs p.tl (j + 1) = max (max x (wgtP rs (rg p.tl j).1)) (wgtP rs (rg p.tl j).2)) := by
                  show _ = _
                  rw [pM_succ rs p.tl hjl, HX.out]
                obtain ⟨lo, hlo⟩ : ∃ lo, (rg p.tl j).1 = lo := ⟨_, rfl⟩
                obtain ⟨hi, hhi⟩ : ∃ hi, (rg p.tl j).2 = hi := ⟨_, rfl⟩
                rw [hlo] at z1 HPS
                rw [hhi] at z2 HPS
                have HC1 : Hid (∀ W, Below wr.heap.size wr W → Calls Tryd.prog 14 #[.agg #[.slice va vn vc], .int .i64 lo] W fun e w' => e = .returned (.int .i64 (wgtP rs lo)) ∧ Below W.heap.size W w') := fun W hb => HW.out W lo (HBwx.out.trans (hb.mono HBwx.out.size))
                have HC2 : Hid (∀ W, Below wr.heap.size wr W → Calls Tryd.prog 14 #[.agg #[.slice va vn vc], .int .i64 hi] W fun e w' => e = .returned (.int .i64 (wgtP rs hi)) ∧ Below W.heap.size W w') := fun W hb => HW.out W hi (HBwx.out.trans (hb.mono HBwx.out.size))
                have HBV2 : Hid (∀ W, Below wr.heap.size wr W → Below V1.heap.size V1 W) := fun W hb => HBV.out.trans (hb.mono HBV.out.size)
                clear hrd q1 q2 hlo hhi HX HW HTR HBV HBwx
                generalize wgtP rs lo = wl at *
                generalize wgtP rs hi = wh at *
                have k0 := fun q : BelowOf wr => cell_below g0 q.below (Nat.le_refl _)
                have k3 := fun q : BelowOf wr => cell_below g3 q.below (Nat.le_refl _)
                have k1 := fun q : BelowOf wr => cell_below z1 q.below (Nat.le_refl _)
                go_wp2
                refine wp_region_quiet_below mixed (by kernel_rfl) ?_
                repeat (go_big_quiet_step ((go_at_call 14; exact below_of (HC1.out _ (BelowOf.below _)))))
                refine wpQuiet_nil ?_
                intro W2 hw'
                have hb2 : Below wr.heap.size wr W2 := by obtain ⟨⟨W', h⟩, e⟩ := hw'; rw [e]; exact h
                clear hw' k0 k3 k1
                have g02 := cell_below g0 hb2 (Nat.le_refl _)
                have g32 := cell_below g3 hb2 (Nat.le_refl _)
                have z22 := cell_below z2 hb2 (Nat.le_refl _)
                have k0 := fun q : BelowOf W2 => cell_below g02 q.below (Nat.le_refl _)
                have k3 := fun q : BelowOf W2 => cell_below g32 q.below (Nat.le_refl _)
                have k1 := fun q : BelowOf W2 => cell_below z22 q.below (Nat.le_refl _)
                have HC3 : Hid (∀ W, Below W2.heap.size W2 W → Calls Tryd.prog 14 #[.agg #[.slice va vn vc], .int .i64 hi] W fun e w' => e = .returned (.int .i64 wh) ∧ Below W.heap.size W w') := fun W hb => HC2.out W (hb2.trans (hb.mono hb2.size))
                have HBV3 : Hid (∀ W, Below W2.heap.size W2 W → Below V1.heap.size V1 W) := fun W hb => HBV2.out W (hb2.trans (hb.mono hb2.size))
                clear hb2 g0 g3 z1 z2 HC1 HC2 HBV2
                go_wp2
                refine wp_region_quiet_below mixed (by kernel_rfl) ?_
                repeat (go_big_quiet_step ((go_at_call 14; exact below_of (HC3.out _ (BelowOf.below _)))))
                refine wpQuiet_nil ?_
                intro W3 hw'
                have hb3 : Below W2.heap.size W2 W3 := by obtain ⟨⟨W', h⟩, e⟩ := hw'; rw [e]; exact h
                have HB3 : Hid (Below V1.heap.size V1 W3) := HBV3.out W3 hb3
                clear hw' k0 k3 k1 hb3 HBV3 HC3 g02 g32 z22
                go_wp2
                refine ⟨⟨j + 1, _, by go_num, rfl, by omega, ?_, HB3⟩, by simp [intOf]; omega⟩
                show _ = _
                rw [HPS.out]
                split <;> split <;> omega
              · as_aux_lemma =>
                  have hge : ¬ (j : Int) < 20 := by omega
                  have HF : Hid (m + x = bkS rs ((r.res.drop cu).take (k + 1 - cu))) := by
                    show _ = _
                    rw [← HFS.out, HX.out]; congr 2; omega
                  have hxb := pM_bnd rs p.tl j (by have := HT2.out; omega)
                  rw [← HX.out] at hxb
                  have HBF : Hid (Below W0.heap.size W0 wr) := HV1.out.2.trans (HBV.out.mono HV1.out.2.size)
                  clear HX HBV HW
                  go_wp2
                  exact ⟨⟨k + 1, m + x, by go_num, rfl, by omega, HNk.out.1, HF, HBF⟩, by simp [intOf]; omega⟩
            · as_aux_lemma =>
                have hge : ¬ (j : Int) < (t2 : Int) := by omega
                have HF : Hid (m + x = bkS rs ((r.res.drop cu).take (k + 1 - cu))) := by
                  show _ = _
                  rw [← HFS.out, HX.out]; congr 2; omega
                have hxb := pM_bnd rs p.tl j (by have := HT2.out; omega)
                rw [← HX.out] at hxb
                have HBF : Hid (Below W0.heap.size W0 wr) := HV1.out.2.trans (HBV.out.mono HV1.out.2.size)
                clear HX HBV HW
                go_wp2
                exact ⟨⟨k + 1, m + x, by go_num, rfl, by omega, HNk.out.1, HF, HBF⟩, by simp [intOf]; omega⟩
        · as_aux_lemma =>
            have h3' : (pk == 3) = false := by simpa using h3
            have HF : Hid (m = bkS rs ((r.res.drop cu).take (k + 1 - cu))) := by
              show _ = _
              rw [HS.out, bk1, if_neg (by rw [HPK.out.1]; exact h1), if_neg (by rw [HPK.out.1]; exact h3)]; omega
            have HB1 := HV1.out.2
            rw [hV1] at HB1
            have HBB : Hid (Below W0.heap.size W0 (wr.alloc (.cells #[.int .i64 pk, .int .i64 pu, .int .i64 py, .slice t1 t2 t3] 66))) := HB1
            clear HW HS HB1
            go_wp2
            exact ⟨⟨k + 1, m, by go_num, rfl, by omega, by omega, HF, HBB⟩, by simp [intOf]; omega⟩
    · as_aux_lemma =>
        have hge : ¬ (k : Int) < (N : Int) := by omega
        have HF : Hid (m = R) := by
          show m = R
          rw [HM.out, ← HRR.out, List.take_of_length_le (by have := HN.out; simp; omega)]
        have HBw : Hid (Below w.heap.size w wr) := HG0.out.below.trans (HBW.out.mono HG0.out.size)
        clear HM HW
        go_wp2
        go_ret
        exact ⟨by rw [HF.out]; rfl, HBw.out⟩
end Go.Proofs
