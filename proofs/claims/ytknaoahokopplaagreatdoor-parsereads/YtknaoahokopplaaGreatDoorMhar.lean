/-
  Several texts in one (Yxr Ylr).
-/
import Derived.Test.YtknaoahokopplaaGreatDoorMgzr
import Derived.Test.YtknaoahokopplaaGreatDoorYkr
namespace Go.Proofs
open Go.RowKit Go.Shelf

set_option maxRecDepth 100000
attribute [local go_sem] Oper.semAt_some
theorem line_def (e : Int) {t t2 : Tok} {r : List Tok} (h : which t = 36) (h2 : which t2 = 21) : lineT e (t :: t2 :: r) = (sideT e 62 r).bind fun x r1 => (wantT e 11 r1).bind fun _ r2 => .ok ⟨1, t.a, bareN t, false, false, [], [x], [], [], 0⟩ r2 := by
  unfold lineT
  rw [someT, if_neg (by omega), if_pos ⟨h, h2⟩]
  unfold defT
  rw [wantT, if_pos (show nxt (t2 :: r) = 21 from h2)]
  show ((sideT e 62 r).bind fun x r2 => (.ok ⟨1, 0, bareN t, false, false, [], [x], [], [], 0⟩ r2 : Res Ln)).bind _ = _
  rw [bind_assoc]
  rfl
abbrev dfL (a : Int) (nm : ByteArray) (s : SL) : ML := ⟨1, a, nm, false, false, noS, s, noS, noS, 0⟩
theorem LQ.setk2 {R : Nat} {tA : Option Addr} {c : Nat} {all : List Tok} {e : Int} {w W : World} {k : Nat} {fa fc : Int} {B : Nat} {m : ML} (h : LQ R tA c all e w W k fa fc B m) (hk : k + 1 < all.length) : LQ R tA c all e w (W.setCell ⟨R, 1, none⟩ (.int .i64 ((k : Int) + 2))) (k + 2) fa fc B m :=
  ⟨h.mv.set (.inr rfl) _ _, by
    refine h.rq.cellsOf ?_ (fun g hg => heap_set_other _ hg _ _) (by omega)
    have := cells_setS (j := 1) (u := .int .i64 ((k : Int) + 2)) h.rq.blk
    simpa using this, h.res.same (heap_set_other _ (by have := h.Rlt; omega) _ _), h.own.same (heap_set_other _ (by have := h.Rlt; have := h.Bgt; omega) _ _), h.Rlt, h.glt, h.Bgt⟩
theorem LQ.drew {R : Nat} {tA : Option Addr} {c : Nat} {all : List Tok} {e : Int} {w W : World} {k : Nat} {fa fc : Int} {B : Nat} {m : ML} (h : LQ R tA c all e w W k fa fc B m) : LQ R tA c all e w W.drew k fa fc B m := h.grown (Below.refl _ W).drew
/-- a row of one item, in a block of its own -/
theorem rows_one {w4 W : World} {b d : Nat} {m : MI} {i : It} (hW : W.heap[w4.heap.size]? = some (.cells (mi1 m).toArray 58 (0, 0))) (hb : b ≤ w4.heap.size) (hD : DR d W b none m i) : RowsS (d + 1) W b none ⟨some ⟨w4.heap.size, 0, none⟩, 1, 1⟩ [i] :=
  ⟨[m], ⟨rfl, .inr ⟨w4.heap.size, (mi1 m).toArray, rfl, hb, (fun e => by cases e), hW, Nat.le_refl _, (by show 1 ≤ maxLen; decide), rfl, by simp [fi, mi1]⟩⟩, hD.up, trivial⟩
set_option maxHeartbeats 8000000 in
theorem qline_def {R : Nat} {tA : Option Addr} {c : Nat} {all : List Tok} {e : Int} {w : World} {k : Nat} (h : RQ R tA c all e w k 0 0) {t t2 : Tok} {r : List Tok} (hd : all.drop k = t :: t2 :: r) (h36 : which t = 36) (h21 : which t2 = 21) :
    Calls Tryz.prog 30 #[.pointer (some ⟨R, 0, none⟩)] w (OutQ R tA c all e w (VL 3 w.heap.size) ShL (lineT e (all.drop k))) := by
  obtain ⟨hlt, hdr, hgu, g, rfl, hgR, hcell⟩ := h.tok hd
  obtain ⟨hdr2, hlt2⟩ := drop_next hdr
  have hget : all[k + 1]? = some t2 := by
    have := congrArg (fun l => l[0]?) hdr
    simpa using this
  have hgu2 : GoodU t2 := h.good t2 (List.mem_of_getElem? hget)
  obtain ⟨g2, hg2, hr2, -⟩ := h.rt.resolve_left (fun e0 => by rw [e0] at hlt; simp at hlt)
  obtain rfl : g = g2 := by cases hg2; rfl
  have hcell2 := (hr2 (k + 1) t2 hget).1
  have hlen := h.len
  have hk2 : t.k = 2 := by
    have := hgu.1.2
    unfold which at h36
    split at h36
    · assumption
    · omega
  have hk21 : t2.k = 21 := by
    have := hgu2.2.1
    unfold which at h21
    split at h21
    · rename_i h2; have := this h2; omega
    · assumption
  obtain ⟨s1, s2, -⟩ := hgu.1.1 hk2
  obtain ⟨r0, r1, -, -, -⟩ := h.cells
  have t1 := (hcell w (fun _ _ q => q)).2.1
  have r0' := fun o => cell_up r0 o
  have r1' := fun o => cell_up r1 o
  have t1' := fun o => cell_up t1 o
  have r0'' := fun o o2 => cell_up (cell_up r0 o) o2
  have r1'' := fun o o2 => cell_up (cell_up r1 o) o2
  have t1'' := fun o o2 => cell_up (cell_up t1 o) o2
  obtain ⟨N, hN36⟩ : ∃ N : Int, N = 36 := ⟨_, rfl⟩
  have hN : nxt (all.drop k) = N := by rw [hd, hN36]; exact h36
  have e1 : (N == 116) = false := by rw [hN36]; rfl
  have e2 : (N == 36) = true := by rw [hN36]; rfl
  have H : Hid (LQ R (some ⟨g, 0, none⟩) c all e w ((w.alloc (.cells (ml1 noL).toArray 44)).alloc (.cells (ml1 ⟨2, t.a, ⟨#[]⟩, false, false, noS, noS, noS, noS, 0⟩).toArray 44)).drew k 0 0 (w.heap.size + 1) ⟨2, t.a, ⟨#[]⟩, false, false, noS, noS, noS, noS, 0⟩) := LQ.start h _
  have HN : Hid (nxt (all.drop k) = N ∧ lineT e (all.drop k) = ((sideT e 62 r).bind fun x r1 => (wantT e 11 r1).bind fun _ r2 => .ok ⟨1, t.a, t.t.extract 1 t.t.size, false, false, [], [x], [], [], 0⟩ r2) ∧ all.drop (k + 2) = r) := ⟨hN, by
    rw [hd, line_def e h36 h21]
    have : bareN t = t.t.extract 1 t.t.size := by unfold bareN; rw [h36]; rfl
    rw [this], hdr2⟩
  have hglt : g < w.heap.size := h.glt g rfl (fun e0 => by rw [e0] at hlt; simp at hlt)
  have HT : Hid (∀ W, Mv w W R none → W.cell? ⟨g, k * 6 + 4, none⟩ = some (.string t.t) ∧ W.cell? ⟨g, (k + 1) * 6, none⟩ = some (.int .i64 21)) := fun W hm => by
    have hc : ∀ i, W.cell? ⟨g, i, none⟩ = w.cell? ⟨g, i, none⟩ := fun i => by simp only [World.cell?, hm.block g hglt hgR (by simp)]
    rw [hc, hc, ← hk21]
    exact ⟨(hcell w (fun _ _ q => q)).2.2.2.1, hcell2⟩
  have s1' : (1 : Int) ≤ (t.t.size : Int) := by omega
  clear h hd h36 h21 hdr hdr2 hgu hgu2 hcell hcell2 hg2 hk2 hk21 hN hN36 hr2 hget
  generalize t.a = ta at *
  go_enter Tryz.func30, Tryz.ntmps30
  go_wp2_with fail
  go_region
  all_goals go_wp2_with fail
  clear r0 r1 t1 r0' r1' t1' r0'' r1'' t1''
  refine (qnames_any H.out.rq 116 (by decide) _ rfl HN.out.1).mono ?_
  rintro x w1 ⟨rfl, hg⟩
  have H1 : Hid (LQ R (some ⟨g, 0, none⟩) c all e w w1 k 0 0 (w.heap.size + 1) ⟨2, ta, ⟨#[]⟩, false, false, noS, noS, noS, noS, 0⟩) := H.out.grown hg.below
  clear hg H
  rw [show ((UInt8.toNat 116 : Nat) : Int) = 116 from rfl, e1]
  have HC : Hid (∀ q os, Calls Tryz.prog 55 #[.pointer (some ⟨R, 0, none⟩), .string ⟨#[36]⟩] (Go.Sort.grow (w1.drewN q) os) fun x w' => x = .returned (.bool true) ∧ Grown (Go.Sort.grow (w1.drewN q) os) w') := fun q os => by
    refine (qnames_any (H1.out.rq.grown ((Grown.refl w1).quiet q os)) 36 (by decide) _ rfl HN.out.1).mono ?_
    rintro x w' ⟨rfl, hg⟩
    exact ⟨by rw [show ((UInt8.toNat 36 : Nat) : Int) = 36 from rfl, e2], hg⟩
  have HD : Hid (∀ q os, Calls Tryz.prog 57 #[.string ⟨#[61]⟩] (Go.Sort.grow (w1.drewN q) os) fun x w' => x = .returned (.int .i64 21) ∧ Grown (Go.Sort.grow (w1.drewN q) os) w') := fun q os => by
    refine (sign_any 11 (by omega) _ rfl _).mono ?_
    rintro x w' ⟨rfl, rfl⟩
    exact ⟨rfl, Grown.refl _⟩
  have hR1 := H1.out.rq.cells
  have d0 := fun q os => ((Grown.refl w1).quiet q os).cellv hR1.1
  have d1 := fun q os => ((Grown.refl w1).quiet q os).cellv hR1.2.1
  have d4 := fun q os => (HT.out _ (H1.out.grown ((Grown.refl w1).quiet q os).below).mv).2
  clear hR1
  have d2 : decide ((k : Int) + 1 < (all.length : Int)) = true := by simp; omega
  go_wp2_with fail
  refine wp_region_quiet_grown mixed (by kernel_rfl) ?_
  repeat (go_big_quiet_step (first | (go_at_call 55; exact grown_of (HC.out _ _)) | (go_at_call 57; exact grown_of (HD.out _ _))))
  refine wpQuiet_nil ?_
  intro _ hw'
  obtain ⟨⟨nq, osq⟩, hw''⟩ := hw'
  subst hw''
  have H2 : Hid (LQ R (some ⟨g, 0, none⟩) c all e w (Go.Sort.grow (w1.drewN nq) osq) k 0 0 (w.heap.size + 1) ⟨2, ta, ⟨#[]⟩, false, false, noS, noS, noS, noS, 0⟩) := H1.out.grown ((Grown.refl w1).quiet nq osq).below
  generalize Go.Sort.grow (w1.drewN nq) osq = W2 at H2 ⊢
  clear d0 d1 d4 HC HD H1 d2 e1 e2
  obtain ⟨c0, c1, c2, c3, c4, c5, c6, c7, c8, c9⟩ := H2.out.own.cells
  obtain ⟨f0, f1, f2, f3, f4, f5, f6, f7, f8, f9⟩ := H2.out.own.frozen
  go_upto_region 9 with fail
  have H3 : Hid (LQ R (some ⟨g, 0, none⟩) c all e w (W2.setCell ⟨w.heap.size + 1, 0, none⟩ (.int .i64 1)) k 0 0 (w.heap.size + 1) ⟨1, ta, ⟨#[]⟩, false, false, noS, noS, noS, noS, 0⟩) := H2.out.put 0 _ rfl
  generalize W2.setCell ⟨w.heap.size + 1, 0, none⟩ (.int .i64 1) = W3 at H3 ⊢
  clear H2 c0 c1 c2 c3 c4 c5 c6 c7 c8 c9 f0 f1 f2 f3 f4 f5 f6 f7 f8 f9
  obtain ⟨r0, r1, -, -, -⟩ := H3.out.rq.cells
  have t4 := (HT.out W3 H3.out.mv).1
  obtain ⟨c0, c1, c2, c3, c4, c5, c6, c7, c8, c9⟩ := H3.out.own.cells
  obtain ⟨f0, f1, f2, f3, f4, f5, f6, f7, f8, f9⟩ := H3.out.own.frozen
  go_region
  have H4 : Hid (LQ R (some ⟨g, 0, none⟩) c all e w (W3.setCell ⟨w.heap.size + 1, 2, none⟩ (.string (t.t.extract 1 t.t.size))).drew k 0 0 (w.heap.size + 1) (dfL ta (t.t.extract 1 t.t.size) noS)) := (LQ.put (m' := dfL ta (t.t.extract 1 t.t.size) noS) H3.out 2 (.string (t.t.extract 1 t.t.size)) rfl).drew
  generalize (W3.setCell ⟨w.heap.size + 1, 2, none⟩ (.string (t.t.extract 1 t.t.size))).drew = W4 at H4 ⊢
  generalize t.t.extract 1 t.t.size = nm at *
  clear H3 c0 c1 c2 c3 c4 c5 c6 c7 c8 c9 f0 f1 f2 f3 f4 f5 f6 f7 f8 f9 r0 r1 t4 HT s1 s2 s1'
  obtain ⟨r0, r1, -, -, -⟩ := H4.out.rq.cells
  have fr := H4.out.rq.frozen 1
  have H5 : Hid (LQ R (some ⟨g, 0, none⟩) c all e w (W4.setCell ⟨R, 1, none⟩ (.int .i64 ((k : Int) + 2))) (k + 2) 0 0 (w.heap.size + 1) (dfL ta nm noS)) := H4.out.setk2 hlt2
  go_wp2_with fail
  refine (qitem_any _ (k + 2) H5.out.rq).mono ?_
  intro x w4 hx
  obtain ⟨hm, hx⟩ := hx
  rw [HN.out.2.2] at hx
  have hz5 : w.heap.size + 1 < (W4.setCell ⟨R, 1, none⟩ (.int .i64 ((k : Int) + 2))).heap.size := H5.out.own.lt
  have hz6 := hm.size
  cases hp : sideT e 62 r with
  | no a cd =>
    rw [hp] at hx
    obtain ⟨v, k', rfl, ⟨m, rfl⟩, hr⟩ := hx
    have hcd : cd ≠ 0 := nz_side e 62 (.inl rfl) _ a cd hp
    have e0 : (cd == 0) = false := by simpa using hcd
    have H6 : Hid (LQ R (some ⟨g, 0, none⟩) c all e w w4 k' a cd (w.heap.size + 1) (dfL ta nm noS) ∧ lineT e (all.drop k) = .no a cd) := ⟨H5.out.next hm hr, by rw [HN.out.2.1, hp]; rfl⟩
    clear hm hr hp hcd H4 H5 r0 r1 fr hz5 hz6
    have cc := fun o => (H6.out.1.allocs o).own.cells
    have ff := fun o => (H6.out.1.allocs o).own.frozen
    have c6 := fun o => (cc o).2.2.2.2.2.2.1
    have f6 := fun o => (ff o).2.2.2.2.2.2.1
    clear cc ff
    go_wp2_with fail
    have H7 : Hid (LQ R (some ⟨g, 0, none⟩) c all e w ((w4.alloc (.cells (mi1 m).toArray 58)).setCell ⟨w.heap.size + 1, 6, none⟩ (.slice (some ⟨w4.heap.size, 0, none⟩) 1 1)) k' a cd (w.heap.size + 1) (dfL ta nm ⟨some ⟨w4.heap.size, 0, none⟩, 1, 1⟩)) := (H6.out.1.allocs _).put 6 _ rfl
    refine (fine_any H7.out.rq).mono ?_
    rintro x w5 ⟨rfl, rfl⟩
    rw [e0]
    generalize (w4.alloc (.cells (mi1 m).toArray 58)).setCell ⟨w.heap.size + 1, 6, none⟩ (.slice (some ⟨w4.heap.size, 0, none⟩) 1 1) = w5 at H7 ⊢
    clear c6 f6
    obtain ⟨c0, c1, c2, c3, c4, c5, c6, c7, c8, c9⟩ := H7.out.own.cells
    obtain ⟨d0, d1, d2, d3, d4, d5, d6, d7, d8, d9⟩ := H7.out.res.cells
    obtain ⟨f0, f1, f2, f3, f4, f5, f6, f7, f8, f9⟩ := H7.out.res.frozen
    go_wp2
    obtain ⟨k1, k2, k3⟩ := H7.out.tell (dfL ta nm ⟨some ⟨w4.heap.size, 0, none⟩, 1, 1⟩)
    refine ret_ln rfl rfl k1 ?_
    unfold OutQ
    rw [H6.out.2]
    exact ⟨k2, _, k', rfl, ⟨_, rfl⟩, k3⟩
  | ok y r2 =>
    rw [hp] at hx
    obtain ⟨v, k', rfl, ⟨m, rfl, hD⟩, hdr, hr⟩ := hx
    obtain ⟨K, hK⟩ : ∃ K, kd (all.drop k') = K := ⟨_, rfl⟩
    have q1 := (hr.nk k' rfl hK).2.2 1 (by omega)
    rw [hdr] at q1
    have H6 : Hid (LQ R (some ⟨g, 0, none⟩) c all e w w4 k' 0 0 (w.heap.size + 1) (dfL ta nm noS) ∧ lineT e (all.drop k) = ((wantT e 11 r2).bind fun _ r3 => .ok ⟨1, ta, nm, false, false, [], [y], [], [], 0⟩ r3) ∧ all.drop k' = r2 ∧ kd (all.drop k') = K ∧ (nxt r2 = 10 + ((1 : Nat) : Int) ↔ K = 10 + ((1 : Nat) : Int)) ∧ DR 2 w4 (w.heap.size + 1 + 1) none m y ∧ w.heap.size + 1 < w4.heap.size) := ⟨H5.out.next hm hr, by rw [HN.out.2.1, hp]; rfl, hdr, hK, q1, hD.step (by omega) (.inl rfl) (fun _ _ _ _ => rfl), by omega⟩
    clear hm hr hp H4 H5 r0 r1 fr hz5 hz6 hdr hK q1 hD
    have cc := fun o => (H6.out.1.allocs o).own.cells
    have ff := fun o => (H6.out.1.allocs o).own.frozen
    have c6 := fun o => (cc o).2.2.2.2.2.2.1
    have f6 := fun o => (ff o).2.2.2.2.2.2.1
    clear cc ff
    go_wp2_with fail
    have H7 : Hid (LQ R (some ⟨g, 0, none⟩) c all e w ((w4.alloc (.cells (mi1 m).toArray 58)).setCell ⟨w.heap.size + 1, 6, none⟩ (.slice (some ⟨w4.heap.size, 0, none⟩) 1 1)) k' 0 0 (w.heap.size + 1) (dfL ta nm ⟨some ⟨w4.heap.size, 0, none⟩, 1, 1⟩) ∧ RowsS 3 ((w4.alloc (.cells (mi1 m).toArray 58)).setCell ⟨w.heap.size + 1, 6, none⟩ (.slice (some ⟨w4.heap.size, 0, none⟩) 1 1)) (w.heap.size + 1 + 1) none ⟨some ⟨w4.heap.size, 0, none⟩, 1, 1⟩ [y]) := by
      have hlt4 := H6.out.2.2.2.2.2.2
      refine ⟨(H6.out.1.allocs _).put 6 _ rfl, rows_one ((heap_set_other _ (by omega) _ _).trans (World.alloc_heap_new _ _)) (by omega) (H6.out.2.2.2.2.2.1.step (Nat.le_refl _) (.inl rfl) (fun b h1 h2 _ => (heap_set_other _ (by omega) _ _).trans (Below.heap_alloc _ _ _ h1)))⟩
    refine (fine_any H7.out.1.rq).mono ?_
    rintro x w5 ⟨rfl, rfl⟩
    rw [show ((0 : Int) == 0) = true from rfl]
    generalize (w4.alloc (.cells (mi1 m).toArray 58)).setCell ⟨w.heap.size + 1, 6, none⟩ (.slice (some ⟨w4.heap.size, 0, none⟩) 1 1) = w5 at H7 ⊢
    clear c6 f6
    go_wp2_with fail
    refine (qwant_any H7.out.1.rq 1 (by omega) _ rfl H6.out.2.2.2.1 rfl).mono ?_
    rintro x w6 ⟨rfl, hm, hr⟩
    rw [wF_zero, wF_zero] at hr
    have hr2 := H7.out.1.next hm hr
    have hrow : RowsS 3 w6 (w.heap.size + 1 + 1) none ⟨some ⟨w4.heap.size, 0, none⟩, 1, 1⟩ [y] := H7.out.2.after hm (by have := H7.out.1.Rlt; omega)
    clear hm hr
    by_cases hK : K = 10 + ((1 : Nat) : Int)
    · have e1 : (K == 10 + ((1 : Nat) : Int)) = true := by simpa using hK
      rw [tkk, e1, if_pos rfl, if_pos rfl] at hr2
      have H9 : Hid (LQ R (some ⟨g, 0, none⟩) c all e w w6 (k' + 1) 0 0 (w.heap.size + 1) (dfL ta nm ⟨some ⟨w4.heap.size, 0, none⟩, 1, 1⟩) ∧ RowsS 3 w6 (w.heap.size + 1 + 1) none ⟨some ⟨w4.heap.size, 0, none⟩, 1, 1⟩ [y]) := ⟨hr2, hrow⟩
      have HS : Hid (lineT e (all.drop k) = .ok ⟨1, ta, nm, false, false, [], [y], [], [], 0⟩ r2.tail ∧ all.drop (k' + 1) = r2.tail) := by
        refine ⟨?_, by rw [← H6.out.2.2.1, List.tail_drop]⟩
        rw [H6.out.2.1, wantT, if_pos (by have := H6.out.2.2.2.2.1.2 hK; omega)]
        rfl
      clear hr2 e1 hK hrow H7
      obtain ⟨c0, c1, c2, c3, c4, c5, c6, c7, c8, c9⟩ := H9.out.1.own.cells
      obtain ⟨d0, d1, d2, d3, d4, d5, d6, d7, d8, d9⟩ := H9.out.1.res.cells
      obtain ⟨f0, f1, f2, f3, f4, f5, f6, f7, f8, f9⟩ := H9.out.1.res.frozen
      go_wp2
      obtain ⟨k1, k2, k3⟩ := H9.out.1.tell (dfL ta nm ⟨some ⟨w4.heap.size, 0, none⟩, 1, 1⟩)
      refine ret_ln rfl rfl k1 ?_
      unfold OutQ
      rw [HS.out.1]
      have hrow2 := H9.out.2.step (w' := Proofs.set10 w6 w.heap.size (dfL ta nm ⟨some ⟨w4.heap.size, 0, none⟩, 1, 1⟩)) (b' := w.heap.size) (x' := none) (by omega) (.inl rfl) (fun b _ h2 _ => set10_other _ _ _ (by omega))
      have hLR : LR 3 (Proofs.set10 w6 w.heap.size (dfL ta nm ⟨some ⟨w4.heap.size, 0, none⟩, 1, 1⟩)) w.heap.size none (dfL ta nm ⟨some ⟨w4.heap.size, 0, none⟩, 1, 1⟩) ⟨1, ta, nm, false, false, [], [y], [], [], 0⟩ := ⟨⟨rfl, rfl, rfl, rfl, rfl, rfl⟩, RowsS.nil _ _ _ _, hrow2, RowsS.nil _ _ _ _, RowsS.nil _ _ _ _⟩
      exact ⟨k2, _, k' + 1, rfl, ⟨_, rfl, hLR⟩, HS.out.2, k3⟩
    · have e1 : (K == 10 + ((1 : Nat) : Int)) = false := by simpa using hK
      rw [tkk, e1] at hr2
      have H9 : Hid (LQ R (some ⟨g, 0, none⟩) c all e w w6 k' (atOf e (all.drop k')) 50 (w.heap.size + 1) (dfL ta nm ⟨some ⟨w4.heap.size, 0, none⟩, 1, 1⟩)) := hr2
      have HS : Hid (lineT e (all.drop k) = .no (atOf e (all.drop k')) 50) := by
        show _ = _
        rw [H6.out.2.1, wantT, if_neg (fun h => hK (H6.out.2.2.2.2.1.1 (by omega))), H6.out.2.2.1]
        rfl
      clear hr2 e1 hK hrow H7
      obtain ⟨c0, c1, c2, c3, c4, c5, c6, c7, c8, c9⟩ := H9.out.own.cells
      obtain ⟨d0, d1, d2, d3, d4, d5, d6, d7, d8, d9⟩ := H9.out.res.cells
      obtain ⟨f0, f1, f2, f3, f4, f5, f6, f7, f8, f9⟩ := H9.out.res.frozen
      go_wp2
      obtain ⟨k1, k2, k3⟩ := H9.out.tell (dfL ta nm ⟨some ⟨w4.heap.size, 0, none⟩, 1, 1⟩)
      refine ret_ln rfl rfl k1 ?_
      unfold OutQ
      rw [HS.out]
      exact ⟨k2, _, k', rfl, ⟨_, rfl⟩, k3⟩
end Go.Proofs
namespace Go.Proofs
open Go.RowKit Go.Shelf

set_option maxRecDepth 100000
attribute [local go_sem] Oper.semAt_some

theorem piece_bad (e : Int) {ts : List Tok} (h1 : nxt ts ≠ 1) (h3 : nxt ts ≠ 3) : pieceT e ts = .no (atOf e ts) 50 := by
  cases ts with
  | nil => rfl
  | cons t r =>
    simp only [nxt] at h1 h3
    have hb : Nat.testBit 386 (begun (which t)) = false := by
      unfold begun
      rw [if_neg h1]
      repeat' split
      all_goals first | decide | contradiction
    simp [pieceT, itemT, hb, atOf]
theorem piece_unit (e : Int) {t : Tok} {r : List Tok} (h : which t = 1) : pieceT e (t :: r) = sideT e 62 (t :: r) := by
  rw [side_unit e h]
  simp [pieceT, itemT, restT, h, begun, Nat.testBit]
theorem piece_copy (e : Int) {t : Tok} {r : List Tok} (h : which t = 3) : pieceT e (t :: r) = if nxt r = 22 then (sideT e 60 r.tail).bind fun x r2 => .ok (.mk 8 0 ⟨#[]⟩ [x] 0 0 false t.n) r2 else .ok (.mk 7 0 ⟨#[]⟩ [] 0 0 false t.n) r := by
  simp [pieceT, itemT, restT, h, begun, Nat.testBit]
theorem side60_bad (e : Int) {ts : List Tok} (h : nxt ts = 1 ∨ begQ (nxt ts) = false) : sideT e 60 ts = .no (atOf e ts) 50 := by
  cases ts with
  | nil => rfl
  | cons t r =>
    simp only [nxt] at h
    have hb : Nat.testBit 60 (begun (which t)) = false := by
      rcases h with h | h
      · rw [h]; decide
      · unfold begQ begun at h
        unfold begun
        revert h
        repeat' split
        all_goals decide
    simp [sideT, itemT, hb, atOf]
theorem side60 (e : Int) {ts : List Tok} (h1 : nxt ts ≠ 1) (h : begQ (nxt ts) = true) : sideT e 60 ts = sideT e 62 ts := by
  cases ts with
  | nil => exact absurd h (by decide)
  | cons t r =>
    simp only [nxt] at h h1
    have hb : Nat.testBit 60 (begun (which t)) = true := by
      unfold begQ begun at h
      unfold begun
      rw [if_neg h1] at h ⊢
      revert h
      repeat' split
      all_goals decide
    unfold begQ at h
    simp only [sideT, itemT]
    rw [if_pos hb, if_pos h]
    unfold restT
    split <;> first | rfl | simp [Nat.testBit]
def cpI (n : Int) : MI := ⟨7, 0, ⟨#[]⟩, none, 0, 0, 0, 0, false, n⟩
theorem VQ03 {b : Nat} {w' : World} (k u : Int) (t : ByteArray) (lo hi : Int) (nt : Bool) (key : Int) : VQ 3 b w' (mia ⟨k, u, t, none, 0, 0, lo, hi, nt, key⟩) (.mk k u t [] lo hi nt key) := ⟨_, rfl, DR0 2 w' b none k u t lo hi nt key⟩
set_option maxHeartbeats 8000000 in
theorem qpiece_unit {R : Nat} {tA : Option Addr} {c : Nat} {all : List Tok} {e : Int} {w : World} {k : Nat} (h : RQ R tA c all e w k 0 0) {t : Tok} {r : List Tok} (hd : all.drop k = t :: r) (hw : which t = 1) :
    Calls Tryz.prog 110 #[.pointer (some ⟨R, 0, none⟩)] w (OutQ R tA c all e w (VQ 3 w.heap.size) ShI (pieceT e (all.drop k))) := by
  have hS : pieceT e (all.drop k) = .ok (.mk 1 t.u ⟨#[]⟩ [] 0 0 false 0) r := by rw [hd, piece_unit e hw]; exact side_unit e hw
  have hS2 : sideT e 62 (all.drop k) = .ok (.mk 1 t.u ⟨#[]⟩ [] 0 0 false 0) r := by rw [hd]; exact side_unit e hw
  have hK : kd (all.drop k) = 1 := ((h.nk k (by rw [hd]; exact hw) rfl).1.1 rfl)
  have H : Hid (QI R tA c all e w (w.alloc (.cells (mi1 noI).toArray 58)) k 0 0 noI ∧ kd (all.drop k) = 1 ∧ pieceT e (all.drop k) = .ok (.mk 1 t.u ⟨#[]⟩ [] 0 0 false 0) r ∧ sideT e 62 (all.drop k) = .ok (.mk 1 t.u ⟨#[]⟩ [] 0 0 false 0) r) := ⟨QI.start h noI, hK, hS, hS2⟩
  clear h hd hw hS hK hS2
  go_enter Tryz.func110, Tryz.ntmps110
  go_wp2_with fail
  refine (kind_any H.out.1.rq).mono ?_
  rintro x w1 ⟨rfl, hg⟩
  rw [H.out.2.1]
  have H1 : Hid (QI R tA c all e w w1 k 0 0 noI) := H.out.1.grown hg.below
  clear hg
  go_wp2_with fail
  refine (qitem_any _ k H1.out.rq).mono ?_
  intro x w2 hx
  obtain ⟨hm, hx⟩ := hx
  rw [H.out.2.2.2] at hx
  obtain ⟨v, k', rfl, ⟨m, rfl, hD⟩, hdr, hr⟩ := hx
  have H2 : Hid (QI R tA c all e w w2 k' 0 0 noI ∧ DR 2 w2 w1.heap.size none m (.mk 1 t.u ⟨#[]⟩ [] 0 0 false 0) ∧ all.drop k' = r ∧ w.heap.size < w1.heap.size) := ⟨H1.out.next hm hr, hD, hdr, H1.out.ib.lt⟩
  clear hm hr hD hdr H1
  obtain ⟨c0, c1, c2, c3, c4, c5, c6, c7⟩ := H2.out.1.ib.cells
  obtain ⟨f0, f1, f2, f3, f4, f5, f6, f7⟩ := H2.out.1.ib.frozen
  go_wp2
  obtain ⟨k1, k2, k3⟩ := H2.out.1.tell m
  refine ret_it rfl rfl k1 ?_
  unfold OutQ
  rw [H.out.2.2.1]
  have hz := H2.out.2.2.2
  exact ⟨k2, _, k', rfl, ⟨m, rfl, (H2.out.2.1.up).step (by omega) (.inl rfl) (fun k _ h2 _ => set8_other _ _ _ (by omega))⟩, H2.out.2.2.1, k3⟩
set_option maxHeartbeats 8000000 in
theorem qpiece_bad {R : Nat} {tA : Option Addr} {c : Nat} {all : List Tok} {e : Int} {w : World} {k : Nat} (h : RQ R tA c all e w k 0 0) (h1 : nxt (all.drop k) ≠ 1) (h3 : nxt (all.drop k) ≠ 3) :
    Calls Tryz.prog 110 #[.pointer (some ⟨R, 0, none⟩)] w (OutQ R tA c all e w (VQ 3 w.heap.size) ShI (pieceT e (all.drop k))) := by
  have hS := piece_bad e h1 h3
  obtain ⟨K, hK⟩ : ∃ K, kd (all.drop k) = K := ⟨_, rfl⟩
  have q := h.nk k rfl hK
  have e1 : (K == 1) = false := by
    have : K ≠ 1 := fun h => h1 (q.1.2 h)
    simpa using this
  have e3 : (K != 3) = true := by
    have : K ≠ 3 := fun h => h3 (q.2.1.2 h)
    simpa using this
  have H : Hid (QI R tA c all e w (w.alloc (.cells (mi1 noI).toArray 58)) k 0 0 noI ∧ kd (all.drop k) = K ∧ pieceT e (all.drop k) = .no (atOf e (all.drop k)) 50) := ⟨QI.start h noI, hK, hS⟩
  clear h h1 h3 hS hK q
  go_enter Tryz.func110, Tryz.ntmps110
  go_wp2_with fail
  refine (kind_any H.out.1.rq).mono ?_
  rintro x w1 ⟨rfl, hg⟩
  rw [H.out.2.1]
  have H1 : Hid (QI R tA c all e w w1 k 0 0 noI) := H.out.1.grown hg.below
  clear hg
  go_wp2_with fail
  refine (kind_any H1.out.rq).mono ?_
  rintro x w2 ⟨rfl, hg⟩
  rw [H.out.2.1]
  have H2 : Hid (QI R tA c all e w w2 k 0 0 noI) := H1.out.grown hg.below
  clear hg H1
  obtain ⟨r0, r1, -, -, -⟩ := H2.out.rq.cells
  go_wp2_with fail
  refine (wrong_any H2.out.rq k 50 rfl).mono ?_
  rintro x w3 ⟨rfl, hm, hr⟩
  rw [nF_zero, nF_zero] at hr
  have H3 : Hid (QI R tA c all e w w3 k (atOf e (all.drop k)) 50 noI) := H2.out.next hm hr
  clear hm hr H2 r0 r1
  obtain ⟨c0, c1, c2, c3, c4, c5, c6, c7⟩ := H3.out.ib.cells
  obtain ⟨f0, f1, f2, f3, f4, f5, f6, f7⟩ := H3.out.ib.frozen
  go_wp2
  obtain ⟨k1, k2, k3⟩ := H3.out.tell noI
  refine ret_it rfl rfl k1 ?_
  unfold OutQ
  rw [H.out.2.2]
  exact ⟨k2, _, k, rfl, ⟨noI, rfl⟩, k3⟩
end Go.Proofs
