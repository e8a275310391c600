/-
  Several texts in one (Ybr Ycr).
-/
import Derived.Test.YtknaoahokopplaaGreatDoorMgvr
import Derived.Test.YtknaoahokopplaaGreatDoorMgdr
namespace Go.Proofs
open Go.RowKit Go.Shelf

set_option maxRecDepth 100000
attribute [local go_sem] Oper.semAt_some

theorem Grown.mv {w w' : World} (h : Grown w w') (R : Nat) : Mv w w' R none := Mv.of_below h.below
theorem RQ.cellsOf {R : Nat} {tA : Option Addr} {c : Nat} {all : List Tok} {e : Int} {w w' : World} {k k' : Nat} {fa fc fa' fc' : Int} (h : RQ R tA c all e w k fa fc) (hb : w'.heap[R]? = some (.cells #[.slice tA all.length c, .int .i64 k', .int .i64 e, .int .i64 fa', .int .i64 fc'] 62 (0, 0))) (ho : ∀ g, g ≠ R → w'.heap[g]? = w.heap[g]?) (hk : k' ≤ all.length) : RQ R tA c all e w' k' fa' fc' :=
  ⟨hb, h.rt.imp id fun ⟨g, e1, r, n⟩ => ⟨g, e1, fun j x hj => by
    have hc : ∀ i, w'.cell? ⟨g, i, none⟩ = w.cell? ⟨g, i, none⟩ := fun i => by simp only [World.cell?, ho g n]
    obtain ⟨a0, a1, a2, a3, a4, a5⟩ := r j x hj
    exact ⟨(hc _).trans a0, (hc _).trans a1, (hc _).trans a2, (hc _).trans a3, (hc _).trans a4, (hc _).trans a5⟩, n⟩, hk, h.good, h.len⟩
theorem RQ.setk {R : Nat} {tA : Option Addr} {c : Nat} {all : List Tok} {e : Int} {w : World} {k : Nat} {fa fc : Int} (h : RQ R tA c all e w k fa fc) (hk : k < all.length) : RQ R tA c all e (w.setCell ⟨R, 1, none⟩ (.int .i64 ((k : Int) + 1))) (k + 1) fa fc := by
  refine h.cellsOf ?_ (fun g hg => heap_set_other _ hg _ _) (by omega)
  have := cells_setS (j := 1) (u := .int .i64 ((k : Int) + 1)) h.blk
  simpa using this
theorem RQ.setf {R : Nat} {tA : Option Addr} {c : Nat} {all : List Tok} {e : Int} {w : World} {k : Nat} {fa fc : Int} (h : RQ R tA c all e w k fa fc) (a b : Int) : RQ R tA c all e ((w.setCell ⟨R, 3, none⟩ (.int .i64 a)).setCell ⟨R, 4, none⟩ (.int .i64 b)) k a b := by
  refine h.cellsOf ?_ (fun g hg => (heap_set_other _ hg _ _).trans (heap_set_other _ hg _ _)) h.kle
  have := cells_setS (j := 4) (u := .int .i64 b) (cells_setS (j := 3) (u := .int .i64 a) h.blk)
  simpa using this
theorem RQ.seta {R : Nat} {tA : Option Addr} {c : Nat} {all : List Tok} {e : Int} {w : World} {k : Nat} {fa fc : Int} (h : RQ R tA c all e w k fa fc) (a : Int) : RQ R tA c all e (w.setCell ⟨R, 3, none⟩ (.int .i64 a)) k a fc := by
  refine h.cellsOf ?_ (fun g hg => heap_set_other _ hg _ _) h.kle
  have := cells_setS (j := 3) (u := .int .i64 a) h.blk
  simpa using this
theorem kd_lt {all : List Tok} {k : Nat} (h : kd (all.drop k) ≠ 0) : k < all.length := by
  rcases Nat.lt_or_ge k all.length with h1 | h1
  · exact h1
  · rw [List.drop_of_length_le h1] at h
    exact absurd rfl h
/-- where the reader stands behind a sign that may be there -/
def tkk (K : Int) (i k : Nat) : Nat := if K == 10 + (i : Int) then k + 1 else k
set_option maxHeartbeats 1000000 in
theorem took_any {R : Nat} {tA : Option Addr} {c : Nat} {all : List Tok} {e : Int} {w : World} {k : Nat} {fa fc : Int} (h : RQ R tA c all e w k fa fc) (i : Nat) (hi : i < 13) (s : ByteArray) (hs : s = sgnS i) {K : Int} (hK : kd (all.drop k) = K) :
    Calls Tryz.prog 59 #[.pointer (some ⟨R, 0, none⟩), .string s] w fun x w' => x = .returned (.bool (K == 10 + (i : Int))) ∧ Mv w w' R none ∧ RQ R tA c all e w' (tkk K i k) fa fc := by
  have H : Hid (RQ R tA c all e w k fa fc ∧ kd (all.drop k) = K ∧ s = sgnS i) := ⟨h, hK, hs⟩
  have hlen := h.len
  have hkl := h.kle
  clear h hK hs
  go_enter Tryz.func59, Tryz.ntmps59
  go_wp2_with fail
  refine (is_any H.out.1 i hi s H.out.2.2 H.out.2.1).mono ?_
  rintro x w1 ⟨rfl, hg⟩
  have HG : Hid (Mv w w1 R none ∧ RQ R tA c all e w1 k fa fc) := ⟨hg.mv R, H.out.1.grown hg⟩
  clear hg
  generalize hb : (K == 10 + (i : Int)) = b
  have HB : Hid ((K == 10 + (i : Int)) = b) := hb
  clear hb
  cases b
  · go_wp2
    go_ret
    exact ⟨by rw [HB.out]; rfl, HG.out.1, by rw [tkk, HB.out]; exact HG.out.2⟩
  · have hlt : k < all.length := kd_lt (by rw [H.out.2.1, beq_iff_eq.1 HB.out]; omega)
    obtain ⟨-, c1, -, -, -⟩ := HG.out.2.cells
    have f1 := HG.out.2.frozen 1
    go_wp2
    go_ret
    exact ⟨by rw [HB.out]; rfl, HG.out.1.set (.inr rfl) _ _, by rw [tkk, HB.out]; exact HG.out.2.setk hlt⟩
/-- the fault that is noted -/
def nF (fc : Int) (x y : Int) : Int := if fc = 0 then x else y
theorem nF_zero (x y : Int) : nF 0 x y = x := rfl
theorem nF_no {fc : Int} (h : fc ≠ 0) (x y : Int) : nF fc x y = y := by unfold nF; rw [if_neg h]
set_option maxHeartbeats 1000000 in
theorem wrong_any {R : Nat} {tA : Option Addr} {c : Nat} {all : List Tok} {e : Int} {w : World} {k : Nat} {fa fc : Int} (h : RQ R tA c all e w k fa fc) (a : Nat) (code : Int) {A : Int} (hA : atOf e (all.drop a) = A) :
    Calls Tryz.prog 61 #[.pointer (some ⟨R, 0, none⟩), .int .i64 a, .int .i64 code] w fun x w' => x = .returned (.tuple #[]) ∧ Mv w w' R none ∧ RQ R tA c all e w' k (nF fc A fa) (nF fc code fc) := by
  have H : Hid (RQ R tA c all e w k fa fc ∧ atOf e (all.drop a) = A) := ⟨h, hA⟩
  obtain ⟨c0, c1, c2, c3, c4⟩ := h.cells
  have f3 := h.frozen 3
  have f4 := h.frozen 4
  have hlen := h.len
  by_cases hfc : fc = 0
  · have HF : Hid (fc = 0) := hfc
    have e0 : (fc != 0) = false := by simpa using hfc
    by_cases hlt : a < all.length
    · have d1 : decide ((a : Int) < (all.length : Int)) = true := by simpa using hlt
      obtain ⟨t, ht⟩ : ∃ t, all[a]? = some t := ⟨all[a], List.getElem?_eq_getElem hlt⟩
      have hne : all ≠ [] := by intro e; rw [e] at hlt; simp at hlt
      obtain ⟨g, rfl, hr, hgR⟩ := h.rt.resolve_left hne
      obtain ⟨-, a1, -⟩ := hr a t ht
      have hgR' : ¬ R = g := fun e => hgR e.symm
      have HA : Hid (t.a = A) := by
        show _ = _
        rw [← hA, List.drop_eq_getElem_cons hlt]
        rw [List.getElem?_eq_getElem hlt] at ht
        rw [Option.some.inj ht]; rfl
      clear h hA hfc hne hr ht
      go_enter Tryz.func61, Tryz.ntmps61
      go_wp2
      refine bodyPost_end (results_none rfl _ _ _) rfl ?_
      refine ⟨rfl, (((Mv.refl w R none).set (.inr rfl) _ _).set (.inr rfl) _ _).set (.inr rfl) _ _, ?_⟩
      rw [HF.out, nF_zero, nF_zero, ← HA.out]
      exact (H.out.1.setf e code).seta t.a
    · have d1 : decide ((a : Int) < (all.length : Int)) = false := by simpa using hlt
      have HA : Hid (e = A) := by
        show _ = _
        rw [← hA, List.drop_of_length_le (by omega)]; rfl
      clear h hA hfc
      go_enter Tryz.func61, Tryz.ntmps61
      go_wp2
      refine bodyPost_end (results_none rfl _ _ _) rfl ?_
      refine ⟨rfl, ((Mv.refl w R none).set (.inr rfl) _ _).set (.inr rfl) _ _, ?_⟩
      rw [HF.out, nF_zero, nF_zero, ← HA.out]
      exact H.out.1.setf e code
  · have HF : Hid (fc ≠ 0) := hfc
    have e0 : (fc != 0) = true := by simpa using hfc
    clear h hA hfc
    go_enter Tryz.func61, Tryz.ntmps61
    go_wp2
    refine bodyPost_ret (results_none rfl _ _ _) rfl ?_
    refine ⟨rfl, Mv.refl w R none, ?_⟩
    rw [nF_no HF.out, nF_no HF.out]
    exact H.out.1
/-- what want notes -/
def wF (b : Bool) (fc x y : Int) : Int := if b then y else nF fc x y
set_option maxHeartbeats 1000000 in
theorem qwant_any {R : Nat} {tA : Option Addr} {c : Nat} {all : List Tok} {e : Int} {w : World} {k : Nat} {fa fc : Int} (h : RQ R tA c all e w k fa fc) (i : Nat) (hi : i < 13) (s : ByteArray) (hs : s = sgnS i) {K A : Int} (hK : kd (all.drop k) = K) (hA : atOf e (all.drop k) = A) :
    Calls Tryz.prog 56 #[.pointer (some ⟨R, 0, none⟩), .string s] w fun x w' => x = .returned (.tuple #[]) ∧ Mv w w' R none ∧ RQ R tA c all e w' (tkk K i k) (wF (K == 10 + (i : Int)) fc A fa) (wF (K == 10 + (i : Int)) fc 50 fc) := by
  have H : Hid (RQ R tA c all e w k fa fc ∧ kd (all.drop k) = K ∧ s = sgnS i ∧ atOf e (all.drop k) = A) := ⟨h, hK, hs, hA⟩
  clear h hK hs hA
  go_enter Tryz.func56, Tryz.ntmps56
  go_wp2_with fail
  refine (took_any H.out.1 i hi s H.out.2.2.1 H.out.2.1).mono ?_
  rintro x w1 ⟨rfl, hm, hr⟩
  generalize hb : (K == 10 + (i : Int)) = b at hr ⊢
  have hk1 : tkk K i k = if b then k + 1 else k := by rw [tkk, hb]
  have HB : Hid ((K == 10 + (i : Int)) = b) := hb
  cases b
  · rw [hk1] at hr
    have HG : Hid (Mv w w1 R none ∧ RQ R tA c all e w1 k fa fc ∧ tkk K i k = k) := ⟨hm, hr, hk1⟩
    obtain ⟨-, c1, -, -, -⟩ := hr.cells
    clear hm hr hk1 hb
    go_wp2_with (go_at_call 61; refine (wrong_any HG.out.2.1 k 50 H.out.2.2.2).mono ?_; rintro x w2 ⟨rfl, hm2, hr2⟩)
    refine bodyPost_end (results_none rfl _ _ _) rfl ?_
    refine ⟨rfl, HG.out.1.and hm2, ?_⟩
    rw [HG.out.2.2, HB.out]
    exact hr2
  · have HG : Hid (Mv w w1 R none ∧ RQ R tA c all e w1 (tkk K i k) fa fc) := ⟨hm, hr⟩
    clear hm hr hk1 hb
    go_wp2
    refine bodyPost_end (results_none rfl _ _ _) rfl ?_
    exact ⟨rfl, HG.out.1, by rw [HB.out]; exact HG.out.2⟩
theorem qranged_any (lo hi : Int) (w : World) : Calls Tryz.prog 145 #[.int .i64 lo, .int .i64 hi] w fun x w' => x = .returned (.bool (isRng lo hi)) ∧ w' = w := by
  have e1 : decide (1114111 < lo) = decide (1114112 ≤ lo) := by rw [decide_eq_decide]; omega
  have e2 : decide (1114111 < hi) = decide (1114112 ≤ hi) := by rw [decide_eq_decide]; omega
  have HR : Hid (isRng lo hi = (decide (lo ≤ hi) && (decide (1114112 ≤ lo) == decide (1114112 ≤ hi)))) := by
    show _ = _
    unfold isRng
    rw [e1, e2]
  clear e1 e2
  rw [HR.out]
  by_cases h : lo ≤ hi
  · have d : decide (lo ≤ hi) = true := by simpa using h
    rw [d]
    go_enter Tryz.func145, Tryz.ntmps145
    go_wp2
    go_ret
    exact ⟨by simp, rfl⟩
  · have d : decide (lo ≤ hi) = false := by simpa using h
    rw [d]
    go_enter Tryz.func145, Tryz.ntmps145
    go_wp2
    go_ret
    exact ⟨by simp, rfl⟩
end Go.Proofs
namespace Go.Proofs
open Go.RowKit Go.Shelf

set_option maxRecDepth 100000
attribute [local go_sem] Oper.semAt_some

theorem nxt_kd {ts : List Tok} (hg : ∀ t ∈ ts, GoodU t) : (nxt ts = 1 ↔ kd ts = 1) ∧ (nxt ts = 3 ↔ kd ts = 3) ∧ (∀ i : Nat, i < 13 → (nxt ts = 10 + (i : Int) ↔ kd ts = 10 + (i : Int))) ∧ (nxt ts = 0 ↔ ts = []) := by
  cases ts with
  | nil => simp [nxt, kd]
  | cons t r =>
    obtain ⟨h1, h2, h3⟩ := hg t (List.mem_cons_self ..)
    simp only [nxt, kd, which]
    by_cases hk : t.k = 2
    · rw [if_pos hk]
      have := h2 hk
      refine ⟨by omega, by omega, fun i _ => by omega, ?_⟩
      simp; omega
    · rw [if_neg hk]
      refine ⟨Iff.rfl, Iff.rfl, fun i _ => Iff.rfl, ?_⟩
      simp; omega
theorem RQ.goodD {R : Nat} {tA : Option Addr} {c : Nat} {all : List Tok} {e : Int} {w : World} {k : Nat} {fa fc : Int} (h : RQ R tA c all e w k fa fc) (j : Nat) : ∀ t ∈ all.drop j, GoodU t := fun t ht => h.good t (List.mem_of_mem_drop ht)
theorem RQ.tok {R : Nat} {tA : Option Addr} {c : Nat} {all : List Tok} {e : Int} {w : World} {k : Nat} {fa fc : Int} (h : RQ R tA c all e w k fa fc) {t : Tok} {r : List Tok} (hd : all.drop k = t :: r) : k < all.length ∧ all.drop (k + 1) = r ∧ GoodU t ∧ ∃ g, tA = some ⟨g, 0, none⟩ ∧ g ≠ R ∧ ∀ w', CK w w' → w'.cell? ⟨g, k * 6, none⟩ = some (.int .i64 t.k) ∧ w'.cell? ⟨g, k * 6 + 1, none⟩ = some (.int .i64 t.a) ∧ w'.cell? ⟨g, k * 6 + 3, none⟩ = some (.int .i64 t.u) ∧ w'.cell? ⟨g, k * 6 + 4, none⟩ = some (.string t.t) ∧ w'.cell? ⟨g, k * 6 + 5, none⟩ = some (.int .i64 t.n) := by
  have hlt : k < all.length := by
    rcases Nat.lt_or_ge k all.length with h1 | h1
    · exact h1
    · rw [List.drop_of_length_le h1] at hd; cases hd
  have hc := List.drop_eq_getElem_cons hlt
  rw [hd] at hc
  injection hc with h1 h2
  have hne : all ≠ [] := by intro e; rw [e] at hlt; simp at hlt
  obtain ⟨g, e1, hr, hg⟩ := h.rt.resolve_left hne
  have ht : all[k]? = some t := by rw [List.getElem?_eq_getElem hlt, h1]
  obtain ⟨a0, a1, -, a3, a4, a5⟩ := hr k t ht
  exact ⟨hlt, h2.symm, h.good t (by rw [h1]; exact List.getElem_mem hlt), g, e1, hg, fun w' ck => ⟨ck _ _ a0, ck _ _ a1, ck _ _ a3, ck _ _ a4, ck _ _ a5⟩⟩
theorem ext01 (t : ByteArray) (h : 1 ≤ t.size) (b : UInt8) : ((t.extract 0 1).toList == [b]) = (byteAt t 0 == (b.toNat : Int)) := by
  rw [Lib.toList_data, ext_take]
  have h0 : t.data.toList = t[0] :: t.data.toList.drop 1 := by
    have := drop_at (s := t) (k := 0) (by omega)
    rwa [List.drop_zero] at this
  rw [h0, List.take_succ_cons, List.take_zero]
  have hb : byteAt t 0 = (t[0].toNat : Int) := by
    unfold byteAt
    rw [Array.getD_eq_getD_getElem?, Array.getElem?_eq_getElem (show 0 < t.data.size from h)]
    rfl
  rw [hb, Bool.eq_iff_iff]
  simp only [beq_iff_eq, List.cons.injEq, and_true]
  constructor
  · intro e; rw [e]
  · intro e; exact UInt8.toNat_inj.1 (by omega)
set_option maxHeartbeats 1000000 in
theorem qnames_any {R : Nat} {tA : Option Addr} {c : Nat} {all : List Tok} {e : Int} {w : World} {k : Nat} {fa fc : Int} (h : RQ R tA c all e w k fa fc) (b : UInt8) (hb : 22 < b.toNat) (s : ByteArray) (hs : s = ⟨#[b]⟩) {N : Int} (hN : nxt (all.drop k) = N) :
    Calls Tryz.prog 55 #[.pointer (some ⟨R, 0, none⟩), .string s] w fun x w' => x = .returned (.bool (N == (b.toNat : Int))) ∧ Grown w w' := by
  have H : Hid (RQ R tA c all e w k fa fc ∧ nxt (all.drop k) = N ∧ s = ⟨#[b]⟩) := ⟨h, hN, hs⟩
  cases hd : all.drop k with
  | nil =>
    have hK : kd (all.drop k) = 0 := by rw [hd]; rfl
    have HN : Hid ((N == (b.toNat : Int)) = false) := by
      show _ = _
      rw [← hN, hd]
      simp [nxt]
      omega
    clear h hN hs hd
    have HC : Hid (∀ q os, Calls Tryz.prog 104 #[.pointer (some ⟨R, 0, none⟩)] (Go.Sort.grow (w.drewN q) os) fun x w' => x = .returned (.int .i64 0) ∧ Grown (Go.Sort.grow (w.drewN q) os) w') := fun q os => by
      have := kind_any (H.out.1.grown ((Grown.refl w).quiet q os))
      rw [hK] at this
      exact this
    clear hK
    go_enter Tryz.func55, Tryz.ntmps55
    go_wp2
    refine wp_region_quiet_grown mixed (by kernel_rfl) ?_
    repeat (go_big_quiet_step ((go_at_call 104; exact grown_of (HC.out _ _))))
    refine wpQuiet_nil ?_
    intro _ hw'
    obtain ⟨⟨nq, osq⟩, hw''⟩ := hw'
    subst hw''
    go_wp2
    go_ret
    exact ⟨by rw [HN.out]; rfl, (Grown.refl _).quiet _ _⟩
  | cons t r =>
    obtain ⟨hlt, hdr, hgu, g, rfl, hgR, hcell⟩ := h.tok hd
    have hlen := h.len
    obtain ⟨c0, c1, -, -, -⟩ := h.cells
    have hK : kd (all.drop k) = t.k := by rw [hd]; rfl
    have HC : Hid (∀ q os, Calls Tryz.prog 104 #[.pointer (some ⟨R, 0, none⟩)] (Go.Sort.grow (w.drewN q) os) fun x w' => x = .returned (.int .i64 t.k) ∧ Grown (Go.Sort.grow (w.drewN q) os) w') := fun q os => by
      have := kind_any (H.out.1.grown ((Grown.refl w).quiet q os))
      rw [hK] at this
      exact this
    by_cases hk2 : t.k = 2
    · have d0 := fun q os => ((Grown.refl w).quiet q os).cellv c0
      have d1 := fun q os => ((Grown.refl w).quiet q os).cellv c1
      have d4 := fun q os => (hcell _ ((Grown.refl w).quiet q os).ck).2.2.2.1
      have e2 : (t.k == 2) = true := by simpa using hk2
      obtain ⟨s1, s2, -⟩ := hgu.1.1 hk2
      have e3 : ((t.t.extract 0 1).toList == s.toList) = (byteAt t.t 0 == (b.toNat : Int)) := by
        rw [hs]
        rw [show (⟨#[b]⟩ : ByteArray).toList = [b] by rw [Lib.toList_data]]
        exact ext01 t.t s1 b
      have HN : Hid (N = byteAt t.t 0) := by
        show _ = _
        rw [← hN, hd]
        simp [nxt, which, hk2]
      have s1' : (1 : Int) ≤ (t.t.size : Int) := by omega
      clear h hN hs hd hK hdr hgu hcell c0 c1 hk2 hgR
      go_enter Tryz.func55, Tryz.ntmps55
      go_wp2
      refine wp_region_quiet_grown mixed (by kernel_rfl) ?_
      repeat (go_big_quiet_step ((go_at_call 104; exact grown_of (HC.out _ _))))
      refine wpQuiet_nil ?_
      intro _ hw'
      obtain ⟨⟨nq, osq⟩, hw''⟩ := hw'
      subst hw''
      go_wp2
      go_ret
      exact ⟨by rw [HN.out]; simp, (Grown.refl _).quiet _ _⟩
    · have e2 : (t.k == 2) = false := by simpa using hk2
      have HN : Hid ((N == (b.toNat : Int)) = false) := by
        show _ = _
        have hkk := hgu.1.2
        rw [← hN, hd]
        simp [nxt, which, hk2]
        omega
      clear h hN hs hd hK hdr hgu hcell c0 c1 hk2 hgR
      go_enter Tryz.func55, Tryz.ntmps55
      go_wp2
      refine wp_region_quiet_grown mixed (by kernel_rfl) ?_
      repeat (go_big_quiet_step ((go_at_call 104; exact grown_of (HC.out _ _))))
      refine wpQuiet_nil ?_
      intro _ hw'
      obtain ⟨⟨nq, osq⟩, hw''⟩ := hw'
      subst hw''
      go_wp2
      go_ret
      exact ⟨by rw [HN.out]; rfl, (Grown.refl _).quiet _ _⟩
end Go.Proofs
