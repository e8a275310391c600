/-
  Several texts in one (Ymr Ynr).
-/
import Derived.Test.YtknaoahokopplaaGreatDoorMhar
namespace Go.Proofs
open Go.RowKit Go.Shelf

set_option maxRecDepth 100000
attribute [local go_sem] Oper.semAt_some

abbrev prI (A : Option Addr) (n c : Nat) (key : Int) : MI := ⟨8, 0, ⟨#[]⟩, A, n, c, 0, 0, false, key⟩
set_option maxHeartbeats 8000000 in
theorem qpiece_copy {R : Nat} {tA : Option Addr} {c : Nat} {all : List Tok} {e : Int} {w : World} {k : Nat} (h : RQ R tA c all e w k 0 0) {t : Tok} {r : List Tok} (hd : all.drop k = t :: r) (hw : which t = 3) :
    Calls Tryz.prog 110 #[.pointer (some ⟨R, 0, none⟩)] w (OutQ R tA c all e w (VQ 3 w.heap.size) ShI (pieceT e (all.drop k))) := by
  have hK : kd (all.drop k) = 3 := ((h.nk k (by rw [hd]; exact hw) rfl).2.1.1 rfl)
  obtain ⟨hlt, hdr, hgu, g, rfl, hgR, hcell⟩ := h.tok hd
  have hlen := h.len
  obtain ⟨K2, hK2⟩ : ∃ K2, kd (all.drop (k + 1)) = K2 := ⟨_, rfl⟩
  have q2 := (h.nk (k + 1) rfl hK2).2.2 12 (by omega)
  rw [hdr] at q2
  have H : Hid (QI R (some ⟨g, 0, none⟩) c all e w (w.alloc (.cells (mi1 noI).toArray 58)) k 0 0 noI ∧ kd (all.drop k) = 3 ∧ pieceT e (all.drop k) = (if nxt r = 22 then (sideT e 60 r.tail).bind fun x r2 => .ok (.mk 8 0 ⟨#[]⟩ [x] 0 0 false t.n) r2 else .ok (.mk 7 0 ⟨#[]⟩ [] 0 0 false t.n) r) ∧ all.drop (k + 1) = r ∧ kd (all.drop (k + 1)) = K2 ∧ (nxt r = 10 + ((12 : Nat) : Int) ↔ K2 = 10 + ((12 : Nat) : Int))) := ⟨QI.start h noI, hK, by rw [hd]; exact piece_copy e hw, hdr, hK2, q2⟩
  have HT : Hid (∀ w', CK w w' → w'.cell? ⟨g, k * 6 + 5, none⟩ = some (.int .i64 t.n)) := fun w' ck => (hcell w' ck).2.2.2.2
  clear h hd hw hK hdr hgu hcell hK2 q2
  go_enter Tryz.func110, Tryz.ntmps110
  go_wp2_with fail
  refine (kind_any H.out.1.rq).mono ?_
  rintro x w1 ⟨rfl, hg⟩
  rw [H.out.2.1]
  have H1 : Hid (QI R (some ⟨g, 0, none⟩) c all e w w1 k 0 0 noI ∧ CK w w1) := ⟨H.out.1.grown hg.below, (ck_below ((Below.refl _ w).alloc (Nat.le_refl _) _)).trans hg.ck⟩
  clear hg
  go_wp2_with fail
  refine (kind_any H1.out.1.rq).mono ?_
  rintro x w2 ⟨rfl, hg⟩
  rw [H.out.2.1]
  have H2 : Hid (QI R (some ⟨g, 0, none⟩) c all e w w2 k 0 0 noI ∧ CK w w2) := ⟨H1.out.1.grown hg.below, H1.out.2.trans hg.ck⟩
  clear hg H1
  obtain ⟨r0, r1, -, -, -⟩ := H2.out.1.rq.cells
  have t5 := HT.out w2 H2.out.2
  have r0' := fun o => cell_up r0 o
  have r1' := fun o => cell_up r1 o
  have t5' := fun o => cell_up t5 o
  go_wp2
  go_region
  have hg3 : Grown w2 (w2.alloc (.cells (mi1 (cpI t.n)).toArray 58)).drew := ((Grown.refl w2).alloc _).drew
  have H3 : Hid (QI R (some ⟨g, 0, none⟩) c all e w (w2.alloc (.cells (mi1 (cpI t.n)).toArray 58)).drew k 0 0 noI ∧ IB (w2.alloc (.cells (mi1 (cpI t.n)).toArray 58)).drew w2.heap.size (cpI t.n) ∧ w.heap.size < w2.heap.size) := ⟨H2.out.1.grown hg3.below, IB.new w2 (cpI t.n), H2.out.1.ib.lt⟩
  rw [show (w2.alloc (.cells #[.int .i64 7, .int .i64 0, .string ⟨#[]⟩, .slice none 0 0, .int .i64 0, .int .i64 0, .bool false, .int .i64 t.n] 58)).drew = (w2.alloc (.cells (mi1 (cpI t.n)).toArray 58)).drew from rfl]
  generalize (w2.alloc (.cells (mi1 (cpI t.n)).toArray 58)).drew = w3 at H3 ⊢
  generalize w2.heap.size = B3 at H3 ⊢
  clear hg3 H2 r0 r1 t5 r0' r1' t5' HT
  obtain ⟨r0, r1, -, -, -⟩ := H3.out.1.rq.cells
  have fr := H3.out.1.rq.frozen 1
  have H4 : Hid (QI R (some ⟨g, 0, none⟩) c all e w (w3.setCell ⟨R, 1, none⟩ (.int .i64 ((k : Int) + 1))) (k + 1) 0 0 noI ∧ IB (w3.setCell ⟨R, 1, none⟩ (.int .i64 ((k : Int) + 1))) B3 (cpI t.n) ∧ w.heap.size < B3) := ⟨H3.out.1.setk hlt, H3.out.2.1.same (heap_set_other _ (by have := H3.out.1.Rlt; have := H3.out.2.2; omega) _ _), H3.out.2.2⟩
  go_wp2_with fail
  refine (took_any H4.out.1.rq 12 (by omega) _ rfl H.out.2.2.2.2.1).mono ?_
  rintro x w4 ⟨rfl, hm, hr⟩
  have hib4 : IB w4 B3 (cpI t.n) := H4.out.2.1.mv hm (by have := H4.out.1.Rlt; have := H4.out.2.2; omega) (by simp)
  by_cases h22 : K2 = 10 + ((12 : Nat) : Int)
  · have e2 : (K2 == 10 + ((12 : Nat) : Int)) = true := by simpa using h22
    rw [tkk, e2, if_pos rfl] at hr
    have HN : Hid (nxt r = 22 ∧ all.drop (k + 2) = r.tail) := ⟨by have := H.out.2.2.2.2.2.2 h22; omega, by rw [← H.out.2.2.2.1, List.tail_drop]⟩
    have H5 : Hid (QI R (some ⟨g, 0, none⟩) c all e w w4 (k + 2) 0 0 noI ∧ IB w4 B3 (cpI t.n) ∧ w.heap.size < B3) := ⟨H4.out.1.next hm hr, hib4, H4.out.2.2⟩
    clear hm hr hib4 h22 H3 H4 r0 r1 fr
    rw [e2]
    clear e2
    obtain ⟨K3, hK3⟩ : ∃ K3, kd (all.drop (k + 2)) = K3 := ⟨_, rfl⟩
    obtain ⟨N3, hN3⟩ : ∃ N3, nxt (all.drop (k + 2)) = N3 := ⟨_, rfl⟩
    have HK3 : Hid (kd (all.drop (k + 2)) = K3 ∧ nxt (all.drop (k + 2)) = N3 ∧ (N3 = 1 ↔ K3 = 1)) := ⟨hK3, hN3, (H5.out.1.rq.nk (k + 2) hN3 hK3).1⟩
    clear hK3 hN3
    have HP : Hid (pieceT e (all.drop k) = (sideT e 60 (all.drop (k + 2))).bind fun x r2 => .ok (.mk 8 0 ⟨#[]⟩ [x] 0 0 false t.n) r2) := by
      show _ = _
      rw [H.out.2.2.1, if_pos HN.out.1, HN.out.2]
    go_wp2_with fail
    refine (kind_any H5.out.1.rq).mono ?_
    rintro x w5 ⟨rfl, hg⟩
    rw [HK3.out.1]
    have H6 : Hid (QI R (some ⟨g, 0, none⟩) c all e w w5 (k + 2) 0 0 noI ∧ IB w5 B3 (cpI t.n) ∧ w.heap.size < B3) := ⟨H5.out.1.grown hg.below, H5.out.2.1.same (hg.below.block _ H5.out.2.1.lt), H5.out.2.2⟩
    clear hg H5
    cases hk3 : (K3 == 1)
    · have hN1 : N3 ≠ 1 := fun h => by
        have := HK3.out.2.2.1 h
        rw [this] at hk3
        cases hk3
      have HN1 : Hid (N3 ≠ 1) := hN1
      clear hN1
      go_wp2_with fail
      refine (qbegins_any H6.out.1.rq HK3.out.2.1).mono ?_
      rintro x w6 ⟨rfl, hg⟩
      have H7 : Hid (QI R (some ⟨g, 0, none⟩) c all e w w6 (k + 2) 0 0 noI ∧ IB w6 B3 (cpI t.n) ∧ w.heap.size < B3) := ⟨H6.out.1.grown hg.below, H6.out.2.1.same (hg.below.block _ H6.out.2.1.lt), H6.out.2.2⟩
      clear hg H6
      have H6 := H7
      clear H7
      generalize hb : begQ N3 = bb
      have HB : Hid (begQ (nxt (all.drop (k + 2))) = bb) := by rw [HK3.out.2.1]; exact hb
      clear hb
      cases bb
      · have HBD : Hid (pieceT e (all.drop k) = .no (atOf e (all.drop (k + 2))) 50) := by
          show _ = _
          rw [HP.out, side60_bad e (.inr HB.out)]
          rfl
        obtain ⟨rr0, rr1, -, -, -⟩ := H6.out.1.rq.cells
        go_wp2_with fail
        refine (wrong_any H6.out.1.rq (k + 2) 50 rfl).mono ?_
        rintro x wA ⟨rfl, hm, hr⟩
        rw [nF_zero, nF_zero] at hr
        have HA : Hid (QI R (some ⟨g, 0, none⟩) c all e w wA (k + 2) (atOf e (all.drop (k + 2))) 50 noI) := H6.out.1.next hm hr
        clear hm hr rr0 rr1 H6
        obtain ⟨c0, c1, c2, c3, c4, c5, c6, c7⟩ := HA.out.ib.cells
        obtain ⟨f0, f1, f2, f3, f4, f5, f6, f7⟩ := HA.out.ib.frozen
        go_wp2
        obtain ⟨m1, m2, m3⟩ := HA.out.tell noI
        refine ret_it rfl rfl m1 ?_
        unfold OutQ
        rw [HBD.out]
        exact ⟨m2, _, k + 2, rfl, ⟨noI, rfl⟩, m3⟩
      · have hs60 : sideT e 60 (all.drop (k + 2)) = sideT e 62 (all.drop (k + 2)) := side60 e (by rw [HK3.out.2.1]; exact HN1.out) HB.out
        have HP2 : Hid (pieceT e (all.drop k) = (sideT e 62 (all.drop (k + 2))).bind fun x r2 => .ok (.mk 8 0 ⟨#[]⟩ [x] 0 0 false t.n) r2) := by
          show _ = _
          rw [HP.out, hs60]
        clear hs60 HP
        obtain ⟨d0, d1, d2, d3, d4, d5, d6, d7⟩ := H6.out.2.1.cells
        obtain ⟨g0, g1, g2, g3, g4, g5, g6, g7⟩ := H6.out.2.1.frozen
        have H7 : Hid (QI R (some ⟨g, 0, none⟩) c all e w (w6.setCell ⟨B3, 0, none⟩ (.int .i64 8)) (k + 2) 0 0 noI ∧ IB (w6.setCell ⟨B3, 0, none⟩ (.int .i64 8)) B3 (prI none 0 0 t.n) ∧ w.heap.size < B3) := by
          refine ⟨H6.out.1.low (H6.out.1.mv.set (.inl (by have := H6.out.2.2; omega)) _ _) H6.out.2.2 (fun b hb => heap_set_other _ (by omega) _ _), ?_, H6.out.2.2⟩
          have := cells_setS (j := 0) (u := .int .i64 8) H6.out.2.1
          simpa [IB, mi1, cpI, prI] using this
        go_wp2_with fail
        refine (qitem_any _ (k + 2) H7.out.1.rq).mono ?_
        intro x w8 hx
        obtain ⟨hm, hx⟩ := hx
        have hib8 : IB w8 B3 (prI none 0 0 t.n) := H7.out.2.1.mv hm (by have := H7.out.1.Rlt; have := H7.out.2.2; omega) (by simp)
        have hz7 : B3 < (w6.setCell ⟨B3, 0, none⟩ (.int .i64 8)).heap.size := H7.out.2.1.lt
        cases hp : sideT e 62 (all.drop (k + 2)) with
        | no a cd =>
          rw [hp] at hx
          obtain ⟨v, k', rfl, ⟨m, rfl⟩, hr⟩ := hx
          have H8 : Hid (QI R (some ⟨g, 0, none⟩) c all e w w8 k' a cd noI ∧ IB w8 B3 (prI none 0 0 t.n) ∧ w.heap.size < B3 ∧ pieceT e (all.drop k) = .no a cd) := ⟨H7.out.1.next hm hr, hib8, H7.out.2.2, by rw [HP2.out, hp]; rfl⟩
          clear hm hr hib8 hp H6 H7 d0 d1 d2 d3 d4 d5 d6 d7 g0 g1 g2 g3 g4 g5 g6 g7 hz7
          have hc := fun o => (H8.out.2.1.allocs o).cells
          have hf := fun o => (H8.out.2.1.allocs o).frozen
          have p3 := fun o => (hc o).2.2.2.1
          have q3 := fun o => (hf o).2.2.2.1
          clear hc hf
          go_upto_region 15 with fail
          have hB8 : B3 < w8.heap.size := H8.out.2.1.lt
          have hbl : ∀ b, b < B3 → ((w8.alloc (.cells (mi1 m).toArray 58)).setCell ⟨B3, 3, none⟩ (.slice (some ⟨w8.heap.size, 0, none⟩) 1 1)).heap[b]? = w8.heap[b]? := fun b hb => (heap_set_other _ (by omega) _ _).trans (Below.heap_alloc _ _ _ (by omega))
          have H9 : Hid (QI R (some ⟨g, 0, none⟩) c all e w ((w8.alloc (.cells (mi1 m).toArray 58)).setCell ⟨B3, 3, none⟩ (.slice (some ⟨w8.heap.size, 0, none⟩) 1 1)) k' a cd noI ∧ IB ((w8.alloc (.cells (mi1 m).toArray 58)).setCell ⟨B3, 3, none⟩ (.slice (some ⟨w8.heap.size, 0, none⟩) 1 1)) B3 (prI (some ⟨w8.heap.size, 0, none⟩) 1 1 t.n) ∧ ((w8.alloc (.cells (mi1 m).toArray 58)).setCell ⟨B3, 3, none⟩ (.slice (some ⟨w8.heap.size, 0, none⟩) 1 1)).heap[w8.heap.size]? = some (.cells (mi1 m).toArray 58 (0, 0)) ∧ ∀ b, b < w8.heap.size → b ≠ B3 → ((w8.alloc (.cells (mi1 m).toArray 58)).setCell ⟨B3, 3, none⟩ (.slice (some ⟨w8.heap.size, 0, none⟩) 1 1)).heap[b]? = w8.heap[b]?) := by
            refine ⟨H8.out.1.low ((H8.out.1.mv.alloc _).set (.inl (by have := H8.out.2.2.1; omega)) _ _) H8.out.2.2.1 hbl, ?_, (heap_set_other _ (by omega) _ _).trans (World.alloc_heap_new _ _), fun b h1 h2 => (heap_set_other _ h2 _ _).trans (Below.heap_alloc _ _ _ h1)⟩
            have := cells_setS (j := 3) (u := .slice (some ⟨w8.heap.size, 0, none⟩) 1 1) (H8.out.2.1.allocs (.cells (mi1 m).toArray 58))
            simpa [IB, mi1, prI] using this
          clear hbl p3 q3
          rw [show (w8.alloc (.cells #[.int .i64 m.k, .int .i64 m.u, .string m.t, .slice m.A m.n m.c, .int .i64 m.lo, .int .i64 m.hi, .bool m.nt, .int .i64 m.key] 58)) = w8.alloc (.cells (mi1 m).toArray 58) from rfl]
          generalize (w8.alloc (.cells (mi1 m).toArray 58)).setCell ⟨B3, 3, none⟩ (.slice (some ⟨w8.heap.size, 0, none⟩) 1 1) = w9 at H9 ⊢
          obtain ⟨c0, c1, c2, c3, c4, c5, c6, c7⟩ := H9.out.1.ib.cells
          obtain ⟨f0, f1, f2, f3, f4, f5, f6, f7⟩ := H9.out.1.ib.frozen
          obtain ⟨d0, d1, d2, d3, d4, d5, d6, d7⟩ := H9.out.2.1.cells
          go_wp2
          obtain ⟨m1, m2, m3⟩ := H9.out.1.tell (prI (some ⟨w8.heap.size, 0, none⟩) 1 1 t.n)
          refine ret_it rfl rfl m1 ?_
          unfold OutQ
          rw [H8.out.2.2.2]
          exact ⟨m2, _, k', rfl, ⟨prI (some ⟨w8.heap.size, 0, none⟩) 1 1 t.n, rfl⟩, m3⟩
        | ok y r2 =>
          rw [hp] at hx
          obtain ⟨v, k', rfl, ⟨m, rfl, hD⟩, hdr2, hr⟩ := hx
          have H8 : Hid (QI R (some ⟨g, 0, none⟩) c all e w w8 k' 0 0 noI ∧ IB w8 B3 (prI none 0 0 t.n) ∧ w.heap.size < B3 ∧ pieceT e (all.drop k) = .ok (.mk 8 0 ⟨#[]⟩ [y] 0 0 false t.n) r2 ∧ all.drop k' = r2 ∧ ∃ b7, B3 < b7 ∧ DR 2 w8 b7 none m y) := ⟨H7.out.1.next hm hr, hib8, H7.out.2.2, by rw [HP2.out, hp]; rfl, hdr2, _, hz7, hD⟩
          clear hm hr hib8 hp H6 H7 d0 d1 d2 d3 d4 d5 d6 d7 g0 g1 g2 g3 g4 g5 g6 g7 hz7 hD hdr2
          have hc := fun o => (H8.out.2.1.allocs o).cells
          have hf := fun o => (H8.out.2.1.allocs o).frozen
          have p3 := fun o => (hc o).2.2.2.1
          have q3 := fun o => (hf o).2.2.2.1
          clear hc hf
          go_upto_region 15 with fail
          have hB8 : B3 < w8.heap.size := H8.out.2.1.lt
          have hbl : ∀ b, b < B3 → ((w8.alloc (.cells (mi1 m).toArray 58)).setCell ⟨B3, 3, none⟩ (.slice (some ⟨w8.heap.size, 0, none⟩) 1 1)).heap[b]? = w8.heap[b]? := fun b hb => (heap_set_other _ (by omega) _ _).trans (Below.heap_alloc _ _ _ (by omega))
          have H9 : Hid (QI R (some ⟨g, 0, none⟩) c all e w ((w8.alloc (.cells (mi1 m).toArray 58)).setCell ⟨B3, 3, none⟩ (.slice (some ⟨w8.heap.size, 0, none⟩) 1 1)) k' 0 0 noI ∧ IB ((w8.alloc (.cells (mi1 m).toArray 58)).setCell ⟨B3, 3, none⟩ (.slice (some ⟨w8.heap.size, 0, none⟩) 1 1)) B3 (prI (some ⟨w8.heap.size, 0, none⟩) 1 1 t.n) ∧ ((w8.alloc (.cells (mi1 m).toArray 58)).setCell ⟨B3, 3, none⟩ (.slice (some ⟨w8.heap.size, 0, none⟩) 1 1)).heap[w8.heap.size]? = some (.cells (mi1 m).toArray 58 (0, 0)) ∧ ∀ b, b < w8.heap.size → b ≠ B3 → ((w8.alloc (.cells (mi1 m).toArray 58)).setCell ⟨B3, 3, none⟩ (.slice (some ⟨w8.heap.size, 0, none⟩) 1 1)).heap[b]? = w8.heap[b]?) := by
            refine ⟨H8.out.1.low ((H8.out.1.mv.alloc _).set (.inl (by have := H8.out.2.2.1; omega)) _ _) H8.out.2.2.1 hbl, ?_, (heap_set_other _ (by omega) _ _).trans (World.alloc_heap_new _ _), fun b h1 h2 => (heap_set_other _ h2 _ _).trans (Below.heap_alloc _ _ _ h1)⟩
            have := cells_setS (j := 3) (u := .slice (some ⟨w8.heap.size, 0, none⟩) 1 1) (H8.out.2.1.allocs (.cells (mi1 m).toArray 58))
            simpa [IB, mi1, prI] using this
          clear hbl p3 q3
          rw [show (w8.alloc (.cells #[.int .i64 m.k, .int .i64 m.u, .string m.t, .slice m.A m.n m.c, .int .i64 m.lo, .int .i64 m.hi, .bool m.nt, .int .i64 m.key] 58)) = w8.alloc (.cells (mi1 m).toArray 58) from rfl]
          generalize (w8.alloc (.cells (mi1 m).toArray 58)).setCell ⟨B3, 3, none⟩ (.slice (some ⟨w8.heap.size, 0, none⟩) 1 1) = w9 at H9 ⊢
          obtain ⟨c0, c1, c2, c3, c4, c5, c6, c7⟩ := H9.out.1.ib.cells
          obtain ⟨f0, f1, f2, f3, f4, f5, f6, f7⟩ := H9.out.1.ib.frozen
          obtain ⟨d0, d1, d2, d3, d4, d5, d6, d7⟩ := H9.out.2.1.cells
          go_wp2
          obtain ⟨m1, m2, m3⟩ := H9.out.1.tell (prI (some ⟨w8.heap.size, 0, none⟩) 1 1 t.n)
          refine ret_it rfl rfl m1 ?_
          unfold OutQ
          rw [H8.out.2.2.2.1]
          obtain ⟨b7, hb7, hD⟩ := H8.out.2.2.2.2.2
          have hBg := H8.out.2.2.1
          have hPl : Plain (prI (some ⟨w8.heap.size, 0, none⟩) 1 1 t.n) (.mk 8 0 ⟨#[]⟩ [y] 0 0 false t.n) := ⟨rfl, rfl, rfl, rfl, rfl, rfl, rfl⟩
          have hD2 := hD.step (w' := Proofs.set8 w9 w.heap.size (prI (some ⟨w8.heap.size, 0, none⟩) 1 1 t.n)) (b' := w.heap.size) (x' := none) (by omega) (.inl rfl) (fun b h1 h2 _ => (set8_other _ _ _ (by omega)).trans (H9.out.2.2.2 b h1 (by omega)))
          have hblk : (Proofs.set8 w9 w.heap.size (prI (some ⟨w8.heap.size, 0, none⟩) 1 1 t.n)).heap[w8.heap.size]? = some (.cells (mi1 m).toArray 58 (0, 0)) := (set8_other _ _ _ (by omega)).trans H9.out.2.2.1
          have hfi : (mi1 m).toArray.toList.take (1 * 8) = fi [m] := by simp [fi, mi1]
          have hRow : RowI (Proofs.set8 w9 w.heap.size (prI (some ⟨w8.heap.size, 0, none⟩) 1 1 t.n)) w.heap.size none (some ⟨w8.heap.size, 0, none⟩) 1 1 [m] := ⟨rfl, .inr ⟨w8.heap.size, (mi1 m).toArray, rfl, by omega, (fun h => by cases h), hblk, Nat.le_refl _, by unfold maxLen; omega, rfl, hfi⟩⟩
          have hDR : DR 3 (Proofs.set8 w9 w.heap.size (prI (some ⟨w8.heap.size, 0, none⟩) 1 1 t.n)) w.heap.size none (prI (some ⟨w8.heap.size, 0, none⟩) 1 1 t.n) (.mk 8 0 ⟨#[]⟩ [y] 0 0 false t.n) := ⟨hPl, [m], hRow, hD2, trivial⟩
          exact ⟨m2, mia (prI (some ⟨w8.heap.size, 0, none⟩) 1 1 t.n), k', rfl, ⟨prI (some ⟨w8.heap.size, 0, none⟩) 1 1 t.n, rfl, hDR⟩, H8.out.2.2.2.2.1, m3⟩
    · have HBD : Hid (pieceT e (all.drop k) = .no (atOf e (all.drop (k + 2))) 50) := by
        show _ = _
        rw [HP.out, side60_bad e (.inl (by rw [HK3.out.2.1]; exact HK3.out.2.2.2 (by simpa using hk3)))]
        rfl
      obtain ⟨rr0, rr1, -, -, -⟩ := H6.out.1.rq.cells
      go_wp2_with fail
      refine (wrong_any H6.out.1.rq (k + 2) 50 rfl).mono ?_
      rintro x wA ⟨rfl, hm, hr⟩
      rw [nF_zero, nF_zero] at hr
      have HA : Hid (QI R (some ⟨g, 0, none⟩) c all e w wA (k + 2) (atOf e (all.drop (k + 2))) 50 noI) := H6.out.1.next hm hr
      clear hm hr rr0 rr1 H6
      obtain ⟨c0, c1, c2, c3, c4, c5, c6, c7⟩ := HA.out.ib.cells
      obtain ⟨f0, f1, f2, f3, f4, f5, f6, f7⟩ := HA.out.ib.frozen
      go_wp2
      obtain ⟨m1, m2, m3⟩ := HA.out.tell noI
      refine ret_it rfl rfl m1 ?_
      unfold OutQ
      rw [HBD.out]
      exact ⟨m2, _, k + 2, rfl, ⟨noI, rfl⟩, m3⟩
  · have e2 : (K2 == 10 + ((12 : Nat) : Int)) = false := by simpa using h22
    rw [tkk, e2] at hr
    have HN : Hid (¬ nxt r = 22) := fun h => h22 (H.out.2.2.2.2.2.1 (by omega))
    have H5 : Hid (QI R (some ⟨g, 0, none⟩) c all e w w4 (k + 1) 0 0 noI ∧ IB w4 B3 (cpI t.n)) := ⟨H4.out.1.next hm hr, hib4⟩
    clear hm hr hib4 h22 H3 H4 r0 r1 fr
    rw [e2]
    clear e2
    obtain ⟨c0, c1, c2, c3, c4, c5, c6, c7⟩ := H5.out.1.ib.cells
    obtain ⟨f0, f1, f2, f3, f4, f5, f6, f7⟩ := H5.out.1.ib.frozen
    obtain ⟨d0, d1, d2, d3, d4, d5, d6, d7⟩ := H5.out.2.cells
    go_wp2
    obtain ⟨k1, k2, k3⟩ := H5.out.1.tell (cpI t.n)
    refine ret_it rfl rfl k1 ?_
    unfold OutQ
    rw [H.out.2.2.1, if_neg HN.out]
    exact ⟨k2, _, k + 1, rfl, VQ03 _ _ _ _ _ _ _, H.out.2.2.2.1, k3⟩
theorem qpiece_any {R : Nat} {tA : Option Addr} {c : Nat} {all : List Tok} {e : Int} {w : World} {k : Nat} (h : RQ R tA c all e w k 0 0) :
    Calls Tryz.prog 110 #[.pointer (some ⟨R, 0, none⟩)] w (OutQ R tA c all e w (VQ 3 w.heap.size) ShI (pieceT e (all.drop k))) := by
  obtain ⟨N, hN⟩ : ∃ N, nxt (all.drop k) = N := ⟨_, rfl⟩
  by_cases h1 : N = 1
  · obtain ⟨t, r, hd, hw⟩ := drop_cons_of_nxt hN (by omega)
    exact qpiece_unit h hd (by omega)
  by_cases h3 : N = 3
  · obtain ⟨t, r, hd, hw⟩ := drop_cons_of_nxt hN (by omega)
    exact qpiece_copy h hd (by omega)
  exact qpiece_bad h (by rw [hN]; exact h1) (by rw [hN]; exact h3)
end Go.Proofs
namespace Go.Proofs
open Go.RowKit Go.Shelf

set_option maxRecDepth 100000
attribute [local go_sem] Oper.semAt_some

/-- where a result ends -/
def endR (e : Int) (x : List It × Int) (r : List Tok) : Res (List It × Int) := if nxt r = 11 then .ok x r else .no (atOf e r) 50
/-- a result, when some pieces are read, and the cursor (below 0: none as yet) -/
def tailX (e : Int) (q : Int) (xs : List It) (ts : List Tok) : Res (List It × Int) :=
  (resultT e (512 - xs.length) ts).bind fun y r => if q < 0 then (if nxt r = 14 then (resultT e (512 - (xs ++ y).length) r.tail).bind fun z r2 => endR e (xs ++ y ++ z, ((xs ++ y).length : Int)) r2 else endR e (xs ++ y, ((xs ++ y).length : Int)) r) else endR e (xs ++ y, q) r
theorem bit386 {N : Int} : Nat.testBit 386 (begun N) = decide (N = 1 ∨ N = 3) := by
  by_cases h : N = 1 ∨ N = 3
  · rw [decide_eq_true h]
    rcases h with rfl | rfl <;> decide
  · rw [decide_eq_false h]
    unfold begun
    rw [if_neg (fun e => h (.inl e))]
    repeat' split
    all_goals first | decide | (rename_i h3; exact absurd (.inr h3) h)
theorem result_no (e : Int) (d : Nat) {ts : List Tok} (h : Nat.testBit 386 (begun (nxt ts)) = false) : resultT e d ts = .ok [] ts := by
  unfold resultT
  cases d with
  | zero => rw [rowT, if_neg (by simp [h])]
  | succ d => rw [rowT, if_neg (by simp [h])]
theorem tailX_no (e q : Int) (xs : List It) {ts : List Tok} (h : Nat.testBit 386 (begun (nxt ts)) = false) : tailX e q xs ts = if q < 0 then (if nxt ts = 14 then (resultT e (512 - xs.length) ts.tail).bind fun z r2 => endR e (xs ++ z, (xs.length : Int)) r2 else endR e (xs, (xs.length : Int)) ts) else endR e (xs, q) ts := by
  unfold tailX
  rw [result_no e _ h]
  simp only [Res.bind, List.append_nil]
theorem tailX_step (e q : Int) (xs : List It) {ts : List Tok} (h : Nat.testBit 386 (begun (nxt ts)) = true) (hl : xs.length < 512) : tailX e q xs ts = (pieceT e ts).bind fun y r => tailX e q (xs ++ [y]) r := by
  unfold tailX
  obtain ⟨d, hd⟩ : ∃ d, 512 - xs.length = d + 1 := ⟨511 - xs.length, by omega⟩
  have hd2 : ∀ y : It, 512 - (xs ++ [y]).length = d := fun y => by simp; omega
  rw [hd]
  unfold resultT
  rw [rowT, if_pos h, bind_assoc]
  congr 1
  funext y r
  rw [hd2, bind_assoc]
  congr 1
  funext ys r2
  simp only [Res.bind, List.append_assoc, List.cons_append, List.nil_append]
theorem tailX_many (e q : Int) (xs : List It) {ts : List Tok} (h : Nat.testBit 386 (begun (nxt ts)) = true) (hl : xs.length = 512) : tailX e q xs ts = .no (atOf e ts) 52 := by
  unfold tailX
  rw [hl]
  unfold resultT
  rw [Nat.sub_self, rowT, if_pos h]
  rfl
theorem tailX_bar (e : Int) (xs : List It) {ts : List Tok} (h : nxt ts = 14) : tailX e (-1) xs ts = tailX e (xs.length : Int) xs ts.tail := by
  rw [tailX_no e _ xs (by rw [bit386, h]; decide), if_pos (by omega), if_pos h]
  unfold tailX
  simp only [if_neg (show ¬ ((xs.length : Int) < 0) by omega)]
theorem tailX_end (e q : Int) (xs : List It) {ts : List Tok} (h : nxt ts = 11) : tailX e q xs ts = .ok (xs, if q < 0 then (xs.length : Int) else q) ts := by
  rw [tailX_no e _ xs (by rw [bit386, h]; decide)]
  unfold endR
  rw [if_neg (by omega : ¬ nxt ts = 14), if_pos h, if_pos h]
  split <;> rfl
theorem tailX_bad (e q : Int) (xs : List It) {ts : List Tok} (h1 : nxt ts ≠ 1) (h3 : nxt ts ≠ 3) (h11 : nxt ts ≠ 11) (h14 : q < 0 → nxt ts ≠ 14) : tailX e q xs ts = .no (atOf e ts) 50 := by
  rw [tailX_no e _ xs (by rw [bit386]; simp [h1, h3])]
  unfold endR
  by_cases hq : q < 0
  · rw [if_pos hq, if_neg (h14 hq), if_neg h11]
  · rw [if_neg hq, if_neg h11]
theorem tail_endX (e : Int) (ts : List Tok) : (tailT e ts).bind (endR e) = tailX e (-1) [] ts := by
  unfold tailT tailX
  rw [bind_assoc]
  congr 1
  funext x r
  rw [if_pos (show (-1 : Int) < 0 by omega)]
  by_cases h : nxt r = 14
  · rw [if_pos h, if_pos h, bind_assoc]
    rfl
  · rw [if_neg h, if_neg h]
    rfl
theorem endR_want (e : Int) (x : List It × Int) (r : List Tok) {β : Type} (f : List It × Int → List Tok → Res β) : ((endR e x r).bind fun y r1 => (wantT e 11 r1).bind fun _ r2 => f y r2) = (wantT e 11 r).bind fun _ r2 => f x r2 := by
  unfold endR wantT
  by_cases h : nxt r = 11
  · simp [Res.bind, h]
  · simp [Res.bind, h]
def ShT (v : Value) : Prop := ∃ A n c q, v = .tuple #[.slice A n c, .int .i64 q]
def VQT (b : Nat) (w' : World) (v : Value) (l : List It × Int) : Prop := ∃ A c, v = .tuple #[.slice A l.1.length c, .int .i64 l.2] ∧ Rows 3 w' b none A l.1.length c l.1
def CuQ (q : Int) : Prop := q = -1 ∨ ∃ n : Nat, q = (n : Int) ∧ n ≤ 512
def mq (n : Nat) (q : Int) : Nat := 2 * (513 - n) + 1 + (if q < 0 then 1 else 0)
/-- a result on its way -/
structure RTq (R : Nat) (tA : Option Addr) (c : Nat) (all : List Tok) (e : Int) (w W : World) (S : Res (List It × Int)) (f : Nat) (k : Nat) (fa fc : Int) (v : Value) (q : Int) : Prop where
  mv : Mv w W R none
  rq : RQ R tA c all e W k fa fc
  Rlt : R < w.heap.size
  glt : ∀ g, tA = some ⟨g, 0, none⟩ → all ≠ [] → g < w.heap.size
  row : ∃ ms A n cc, v = .slice A n cc ∧ ms.length = n ∧ W.ownsRow w.heap.size 58 8 (.slice A n cc) n (fi ms)
  cur : CuQ q
  fine : fc = 0 → fa = 0 ∧ ∃ xs A cc, v = .slice A xs.length cc ∧ OwnI 3 W w.heap.size v xs ∧ xs.length ≤ 512 ∧ S = tailX e q xs (all.drop k) ∧ f = mq xs.length q
  bad : fc ≠ 0 → S = .no fa fc ∧ f = 0
end Go.Proofs
