/-
  Several texts in one (Fd Fe).
-/
import Derived.RangeFuncNested
import Derived.RangeFuncBound
import Derived.RangeFuncCalls
import Derived.RangeFuncLeaves
import Derived.Shelf.Abstract
import Derived.Shelf.RegionOpen
import Derived.WalkKit
import Derived.WalkSpells
import Derived.WalkLawsBesides
import Derived.OwnWalkIn
import Derived.TacticsInMore
import Derived.LoopNIn
import Derived.LoopIn
import Derived.BigQuiet
import Derived.RegionIn
import Derived.Deep.QuietTactic
import Derived.Deep.RegionWith
import Derived.Lib.OthersKept
import Derived.Maps.AppendAt
import Derived.Lib.SmallJoins
import Derived.Shelf.SlSortCmp.QuietGrown
import Derived.Test.YtpopemkhhdekcaaDoorMgeq
import Derived.Test.YtpopemkhhdekcaaDoorXpq
import Derived.Test.YtpopemkhhdekcaaDoorVaq
namespace Go.Proofs
open Go.RowKit Go.Shelf

set_option maxRecDepth 100000
attribute [local go_sem] Oper.semAt_some
attribute [local go_sem ↓] Go.wp_at_zero Go.wp_at_succ
theorem max_len : maxLen = 9223372036854775807 := rfl
set_option maxHeartbeats 1000000 in
theorem more_any (n k : Int) (w : World) (hn : 0 ≤ n) (hk : 0 ≤ k) : Calls Tryd.prog 17 #[.int .i64 n, .int .i64 k] w fun e w' => ∃ m, e = .returned (.int .i64 m) ∧ 0 ≤ m ∧ m ≤ 2147483648 ∧ w' = w := by
  by_cases h1 : 2147483647 < n
  · go_enter Tryd.func17, Tryd.ntmps17
    go_wp2
    exact bodyPost_ret (v := .int .i64 2147483648) (by simp [results, Tryd.f17, go_sem]) rfl ⟨_, rfl, by decide, by decide, rfl⟩
  · by_cases h2 : 2147483647 - n < k
    · go_enter Tryd.func17, Tryd.ntmps17
      go_wp2
      exact bodyPost_ret (v := .int .i64 2147483648) (by simp [results, Tryd.f17, go_sem]) rfl ⟨_, rfl, by decide, by decide, rfl⟩
    · have h3 : k ≤ 2147483647 := by omega
      go_enter Tryd.func17, Tryd.ntmps17
      go_wp2
      exact bodyPost_ret (v := .int .i64 (n + k)) (by simp [results, Tryd.f17, go_sem]) rfl ⟨_, rfl, by omega, by omega, rfl⟩
set_option maxHeartbeats 2000000 in
theorem setsItems_any (n : Int) (v : Value) (ls : List (List (Int × Int))) (w : World) (h : SR w v ls) (hn : 0 ≤ n) (hl : ls.length ≤ maxLen) : Calls Tryd.prog 16 #[.int .i64 n, v] w fun e w' => ∃ m, e = .returned (.int .i64 m) ∧ 0 ≤ m ∧ m ≤ 2147483648 ∧ w' = w := by
  obtain ⟨a, c, rfl, _, hr⟩ := h
  have HR : Hid (ls = [] ∨ ∃ g o, a = some ⟨g, o, none⟩ ∧ SRd w g o ls) := hr
  obtain ⟨N, hN⟩ : ∃ N, ls.length = N := ⟨_, rfl⟩
  have HN : Hid (ls.length = N) := hN
  rw [hN] at hl ⊢
  rw [max_len] at hl
  have hlI : (N : Int) ≤ 9223372036854775807 := by omega
  have hN0 : (0 : Int) ≤ (N : Int) := by omega
  have HM : Hid (∀ n k : Int, 0 ≤ n → 0 ≤ k → Calls Tryd.prog 17 #[.int .i64 n, .int .i64 k] w fun e w' => ∃ m, e = .returned (.int .i64 m) ∧ 0 ≤ m ∧ m ≤ 2147483648 ∧ w' = w) := fun n k h1 h2 => more_any n k w h1 h2
  clear hN hr
  go_enter Tryd.func16, Tryd.ntmps16
  go_wp2_with fail
  refine (HM.out n N hn hN0).mono ?_
  rintro e w' ⟨m0, rfl, hm0, hm1, hw⟩
  obtain rfl := hw.symm
  go_wp2
  go_loopw [0, 5] (fun vn vi wr => ∃ (k : Nat) (m : Int), vi = .int .i64 k ∧ vn = .int .i64 m ∧ k ≤ N ∧ 0 ≤ m ∧ m ≤ 2147483648 ∧ wr = w) (fun _ vi _ => N - (intOf vi).toNat)
  case atStart => exact ⟨0, m0, rfl, rfl, by omega, hm0, hm1, rfl⟩
  case round =>
    obtain ⟨k, m, rfl, rfl, hk, hm, hm', rfl⟩ := hrel
    have hk0 : (0 : Int) ≤ (k : Int) := by omega
    by_cases hlt : k < N
    · have hlt' : (k : Int) < (N : Int) := by omega
      by_cases hb : m ≤ 2147483647
      · as_aux_lemma =>
          have hkl : k < ls.length := by rw [HN.out]; exact hlt
          obtain ⟨g, o, rfl, hd⟩ := HR.out.resolve_left (fun e => by rw [e] at hkl; simp at hkl)
          obtain ⟨sv, hs, hsr⟩ := hd k hkl
          obtain ⟨s1, s2, s3, rfl⟩ := hsr.sl
          have hs0 : (0 : Int) ≤ (s2 : Int) := by omega
          clear hd hsr HR
          go_wp2_with fail
          refine (HM.out m s2 hm hs0).mono ?_
          rintro e w' ⟨m2, rfl, h2, h3, hw⟩
          obtain rfl := hw.symm
          go_wp2
          exact ⟨⟨k + 1, m2, by go_num, rfl, by omega, h2, h3, by first | rfl | trivial⟩, by simp [intOf]; omega⟩
      · as_aux_lemma =>
          go_wp2
          exact bodyPost_ret (v := .int .i64 m) (by simp [results, Tryd.f16, go_sem]) rfl ⟨_, rfl, hm, hm', rfl⟩
    · as_aux_lemma =>
        have hge : ¬ (k : Int) < (N : Int) := by omega
        go_wp2
        exact bodyPost_ret (v := .int .i64 m) (by simp [results, Tryd.f16, go_sem]) rfl ⟨_, rfl, hm, hm', rfl⟩
theorem pc_at {w : World} {g o : Nat} {ps : List Pc} (h : PRd w g o ps) {j : Nat} (hj : j < ps.length) : ∃ tv, w.cell? ⟨g, o + j * 4, none⟩ = some (.int .i64 ps[j].k) ∧ w.cell? ⟨g, o + j * 4 + 1, none⟩ = some (.int .i64 ps[j].u) ∧ w.cell? ⟨g, o + j * 4 + 2, none⟩ = some (.int .i64 ps[j].y) ∧ w.cell? ⟨g, o + j * 4 + 3, none⟩ = some tv ∧ Rs w tv ps[j].tl := h j hj
def BeyQ (w : World) (e : Ending) (w' : World) : Prop := ∃ b : Bool, e = .returned (.bool b) ∧ Grown w w'
set_option maxHeartbeats 8000000 in
theorem beyond_any (v : Value) (rs : List Rl) (w : World) (h : PsR w v rs) (hl : rs.length ≤ maxLen) (hz : ∀ r ∈ rs, Go.Proofs.YtpopemkhhdekcaaDoor.Lz r) : Calls Tryd.prog 6 #[.agg #[v]] w (BeyQ w) := by
  have HP : Hid (∀ W, Grown w W → PsR W v rs) := fun W hW => h.grown hW
  have HZ : Hid (∀ r ∈ rs, Go.Proofs.YtpopemkhhdekcaaDoor.Lz r) := hz
  obtain ⟨ra, rc, rfl, _, _⟩ := h
  obtain ⟨N, hN⟩ : ∃ N, rs.length = N := ⟨_, rfl⟩
  have HN : Hid (rs.length = N) := hN
  rw [hN] at hl HP ⊢
  rw [max_len] at hl
  have hlI : (N : Int) ≤ 9223372036854775807 := by omega
  have hN0 : (0 : Int) ≤ (N : Int) := by omega
  clear hN hz
  go_enter Tryd.func6, Tryd.ntmps6
  go_wp2
  go_loopw [3, 4] (fun vn vi wr => ∃ (k : Nat) (m : Int), vi = .int .i64 k ∧ vn = .int .i64 m ∧ k ≤ N ∧ 0 ≤ m ∧ m ≤ 9223372036854775807 ∧ Grown (w.alloc (.cells #[.slice ra N rc] 24)) wr) (fun _ vi _ => N - (intOf vi).toNat)
  case atStart => exact ⟨0, N, rfl, rfl, by omega, by omega, by omega, Grown.refl _⟩
  case round =>
    obtain ⟨k, m, rfl, rfl, hk, hm, hm', hG⟩ := hrel
    have hk0 : (0 : Int) ≤ (k : Int) := by omega
    have c0 := hG.cellv (a := ⟨w.heap.size, 0, none⟩) (v := .slice ra N rc) (by simp)
    by_cases hlt : k < N
    · have hlt' : (k : Int) < (N : Int) := by omega
      by_cases hb : m ≤ 2147483647
      · have hkl : k < rs.length := by rw [HN.out]; exact hlt
        have hG0 : Grown w wr := ((Grown.refl w).alloc _).trans hG
        have hLz := HZ.out _ (List.getElem_mem hkl)
        obtain ⟨a', c', e', _, hPr⟩ := HP.out wr hG0
        obtain ⟨g, o, ha', hRA⟩ := hPr.resolve_left (fun e => by rw [e] at hkl; simp at hkl)
        injection e' with q1 q2 q3
        clear q2 q3
        rw [ha'] at q1
        subst q1
        obtain ⟨av, kv, pv, rv, r0, r1, r2, r3, r4, r5, r6, hR⟩ := hRA k hkl
        have HRA : Hid (∀ W, Grown wr W → SR W av rs[k].ante ∧ SR W kv rs[k].key ∧ SR W pv rs[k].post ∧ PR W rv rs[k].res) := fun W hW => ⟨hR.a.grown hW, hR.k.grown hW, hR.p.grown hW, hR.r.grown hW⟩
        have HL : Hid (rs[k].ante.length ≤ maxLen ∧ rs[k].key.length ≤ maxLen ∧ rs[k].post.length ≤ maxLen ∧ rs[k].res.length ≤ maxLen) := ⟨hLz.na, hLz.nk, hLz.np, hLz.nr⟩
        obtain ⟨a1, n1, c1, rfl⟩ := hR.a.sl
        obtain ⟨a2, n2, c2, rfl⟩ := hR.k.sl
        obtain ⟨a3, n3, c3, rfl⟩ := hR.p.sl
        obtain ⟨a5, c5, hrv, _, hrr⟩ := hR.r
        subst hrv
        have HRR : Hid (rs[k].res = [] ∨ ∃ g o, a5 = some ⟨g, o, none⟩ ∧ PRd wr g o rs[k].res) := hrr
        obtain ⟨n5, hn5⟩ : ∃ n5, rs[k].res.length = n5 := ⟨_, rfl⟩
        have HN5 : Hid (rs[k].res.length = n5) := hn5
        rw [hn5] at r5 HRA HL
        have hn5I : (n5 : Int) ≤ 9223372036854775807 := by have := HL.out.2.2.2; rw [max_len] at this; omega
        have hn50 : (0 : Int) ≤ (n5 : Int) := by omega
        have HG : Hid (Grown (w.alloc (.cells #[.slice (some ⟨g, o, none⟩) N rc] 24)) wr) := hG
        generalize rs[k].bg = xb at *
        generalize rs[k].en = xe at *
        generalize rs[k].cu = xc at *
        obtain ⟨W5, hW5⟩ : ∃ W5, W5 = wr.alloc (.cells #[.bool xb, .slice a1 n1 c1, .slice a2 n2 c2, .slice a3 n3 c3, .bool xe, .slice a5 n5 c5, .int .i64 xc] 53) := ⟨_, rfl⟩
        have hG5 : Grown wr W5 := by rw [hW5]; exact (Grown.refl _).alloc _
        have HS1 : Hid (∀ m : Int, 0 ≤ m → Calls Tryd.prog 16 #[.int .i64 m, .slice a1 n1 c1] W5 fun e w' => ∃ x, e = .returned (.int .i64 x) ∧ 0 ≤ x ∧ x ≤ 2147483648 ∧ w' = W5) := fun m h => setsItems_any m _ _ W5 (HRA.out W5 hG5).1 h HL.out.1
        have HS2 : Hid (∀ m : Int, 0 ≤ m → Calls Tryd.prog 16 #[.int .i64 m, .slice a2 n2 c2] W5 fun e w' => ∃ x, e = .returned (.int .i64 x) ∧ 0 ≤ x ∧ x ≤ 2147483648 ∧ w' = W5) := fun m h => setsItems_any m _ _ W5 (HRA.out W5 hG5).2.1 h HL.out.2.1
        have HS3 : Hid (∀ m : Int, 0 ≤ m → Calls Tryd.prog 16 #[.int .i64 m, .slice a3 n3 c3] W5 fun e w' => ∃ x, e = .returned (.int .i64 x) ∧ 0 ≤ x ∧ x ≤ 2147483648 ∧ w' = W5) := fun m h => setsItems_any m _ _ W5 (HRA.out W5 hG5).2.2.1 h HL.out.2.2.1
        have HM : Hid (∀ n k : Int, 0 ≤ n → 0 ≤ k → Calls Tryd.prog 17 #[.int .i64 n, .int .i64 k] W5 fun e w' => ∃ m, e = .returned (.int .i64 m) ∧ 0 ≤ m ∧ m ≤ 2147483648 ∧ w' = W5) := fun n k h1 h2 => more_any n k W5 h1 h2
        have HPR : Hid (rs[k].res = [] ∨ ∃ g o, a5 = some ⟨g, o, none⟩ ∧ PRd W5 g o rs[k].res) := HRR.out.imp id fun ⟨g, o, h1, h2⟩ => ⟨g, o, h1, h2.grown hG5⟩
        have b5 : W5.heap[wr.heap.size]? = some (.cells #[.bool xb, .slice a1 n1 c1, .slice a2 n2 c2, .slice a3 n3 c3, .bool xe, .slice a5 n5 c5, .int .i64 xc] 53 (0, 0)) := by rw [hW5]; exact heap_alloc_new _ _
        have p1 : W5.cell? ⟨wr.heap.size, 1, none⟩ = some (.slice a1 n1 c1) := by rw [cell_of b5]; rfl
        have p2 : W5.cell? ⟨wr.heap.size, 2, none⟩ = some (.slice a2 n2 c2) := by rw [cell_of b5]; rfl
        have p3 : W5.cell? ⟨wr.heap.size, 3, none⟩ = some (.slice a3 n3 c3) := by rw [cell_of b5]; rfl
        have p5 : W5.cell? ⟨wr.heap.size, 5, none⟩ = some (.slice a5 n5 c5) := by rw [cell_of b5]; rfl
        have HG5 : Hid (Grown wr W5) := hG5
        clear hR hrr hn5 hRA hPr ha' hG hG5 b5 HRA HRR hLz hG0
        go_wp2_with fail
        rw [← hW5]
        clear hW5 r0 r1 r2 r3 r4 r5 r6 c0
        refine (HS1.out m hm).mono ?_
        rintro e w' ⟨m1, rfl, h10, h11, hw⟩
        obtain rfl := hw.symm
        go_wp2_with fail
        refine (HS2.out m1 h10).mono ?_
        rintro e w' ⟨m2, rfl, h20, h21, hw⟩
        obtain rfl := hw.symm
        go_wp2_with fail
        refine (HS3.out m2 h20).mono ?_
        rintro e w' ⟨m3, rfl, h30, h31, hw⟩
        obtain rfl := hw.symm
        go_wp2_with fail
        refine (HM.out m3 n5 h30 hn50).mono ?_
        rintro e w' ⟨m4, rfl, h40, h41, hw⟩
        obtain rfl := hw.symm
        obtain ⟨wo, hwo⟩ : ∃ wo, wo = wr := ⟨_, rfl⟩
        rw [← hwo]
        rw [← hwo] at p1 p2 p3 p5 HG HG5
        clear HS1 HS2 HS3 hwo
        go_wp2
        go_loopw [3, 6] (fun vn vj wx => ∃ (j : Nat) (x : Int), vj = .int .i64 j ∧ vn = .int .i64 x ∧ j ≤ n5 ∧ 0 ≤ x ∧ x ≤ 2147483648 ∧ wx = W5) (fun _ vj _ => n5 - (intOf vj).toNat)
        case atStart => exact ⟨0, m4, rfl, rfl, by omega, h40, h41, rfl⟩
        case round =>
          obtain ⟨j, x, rfl, rfl, hj, hx, hx', hwx⟩ := hrel
          obtain rfl := hwx.symm
          have hj0 : (0 : Int) ≤ (j : Int) := by omega
          have HK : Hid (k + 1 ≤ N ∧ n5 - j ≥ 0) := ⟨hlt, by omega⟩
          by_cases hjl : j < n5
          · have hjl' : (j : Int) < (n5 : Int) := by omega
            by_cases hxb : x ≤ 2147483647
            · as_aux_lemma =>
                have hjr : j < rs[k].res.length := by rw [HN5.out]; exact hjl
                obtain ⟨pg, po, rfl, hd⟩ := HPR.out.resolve_left (fun e => by rw [e] at hjr; simp at hjr)
                obtain ⟨tv, _, _, _, x3, hrs⟩ := pc_at hd hjr
                obtain ⟨t1, t2, t3, rfl⟩ := hrs.sl
                have ht0 : (0 : Int) ≤ (t2 : Int) := by omega
                clear hd hrs HPR
                go_wp2_with fail
                refine (HM.out x t2 hx ht0).mono ?_
                rintro e w' ⟨m5, rfl, h50, h51, hw⟩
                obtain rfl := hw.symm
                go_wp2
                exact ⟨⟨j + 1, m5, by go_num, rfl, by omega, h50, h51, by first | rfl | trivial⟩, by simp [intOf]; omega⟩
            · as_aux_lemma =>
                go_wp2
                exact ⟨⟨k + 1, x, by go_num, rfl, hlt, hx, by omega, HG.out.trans HG5.out⟩, by simp [intOf]; omega⟩
          · as_aux_lemma =>
              have hge : ¬ (j : Int) < (n5 : Int) := by omega
              go_wp2
              exact ⟨⟨k + 1, x, by go_num, rfl, hlt, hx, by omega, HG.out.trans HG5.out⟩, by simp [intOf]; omega⟩
      · as_aux_lemma =>
          go_wp2
          go_ret
          exact ⟨_, rfl, ((Grown.refl w).alloc _).trans hG⟩
    · as_aux_lemma =>
        have hge : ¬ (k : Int) < (N : Int) := by omega
        go_wp2
        go_ret
        exact ⟨_, rfl, ((Grown.refl w).alloc _).trans hG⟩
end Go.Proofs
