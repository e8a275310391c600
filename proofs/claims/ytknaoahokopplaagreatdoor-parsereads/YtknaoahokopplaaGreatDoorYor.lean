/-
  The document's reader: a result.
-/
import Derived.Test.YtknaoahokopplaaGreatDoorMhbr
namespace Go.Proofs
open Go.RowKit Go.Shelf

set_option maxRecDepth 100000
attribute [local go_sem] Oper.semAt_some

set_option maxHeartbeats 16000000 in
theorem qresult_any {R : Nat} {tA : Option Addr} {c : Nat} {all : List Tok} {e : Int} {w : World} {k : Nat} (h : RQ R tA c all e w k 0 0) :
    Calls Tryz.prog 62 #[.pointer (some ⟨R, 0, none⟩)] w (OutQ R tA c all e w (VQT w.heap.size) ShT (tailX e (-1) [] (all.drop k))) := by
  obtain ⟨S, hS⟩ : ∃ S, tailX e (-1) [] (all.drop k) = S := ⟨_, rfl⟩
  rw [hS]
  have h0 := h.after ((Below.refl _ w).alloc (Nat.le_refl _) (.cells #[] 58))
  have HP : Hid (RTq R tA c all e w (w.alloc (.cells #[] 58)) S (mq 0 (-1)) k 0 0 (.slice (some ⟨w.heap.size, 0, none⟩) 0 0) (-1)) :=
    ⟨(Mv.refl w R none).alloc _, h0, h.lt, h.glt, ⟨[], _, _, _, rfl, rfl, own0 w⟩, .inl rfl, fun _ => ⟨rfl, [], _, _, rfl, OwnI.new0 w 3, by simp, hS.symm, rfl⟩, fun h => absurd rfl h⟩
  clear hS h0 h
  go_enter Tryz.func62, Tryz.ntmps62
  go_wp2_with fail
  go_loopg [4, 5] (mq 0 (-1)) (fun f v4 v5 wr => Hid (∃ k1 fa fc q, v5 = .int .i64 q ∧ RTq R tA c all e w wr S f k1 fa fc v4 q))
  case atStart => exact ⟨_, _, _, _, rfl, HP.out⟩
  case round =>
    clear HP
    obtain ⟨wo, rfl⟩ : ∃ wo, wo = wr := ⟨_, rfl⟩
    obtain ⟨k1, fa, fc, q, rfl, hP⟩ := hrel.out
    clear hrel
    have HP : Hid (RTq R tA c all e w wo S gk k1 fa fc u4 q) := hP
    clear hP
    by_cases hfc : fc = 0
    · subst hfc
      obtain ⟨hfa, xs, A, cc, hv, hO, hn, hS, hf⟩ := HP.out.fine rfl
      subst hfa
      subst hv
      have HF : Hid (OwnI 3 wo w.heap.size (.slice A xs.length cc) xs ∧ S = tailX e q xs (all.drop k1) ∧ gk = mq xs.length q) := ⟨hO, hS, hf⟩
      clear hO hS hf
      go_wp2_with fail
      refine (fine_any HP.out.rq).mono ?_
      rintro x w5 ⟨rfl, rfl⟩
      rw [show ((0 : Int) == 0) = true from rfl]
      obtain ⟨N1, hN1⟩ : ∃ N1, nxt (all.drop k1) = N1 := ⟨_, rfl⟩
      obtain ⟨K1, hK1⟩ : ∃ K1, kd (all.drop k1) = K1 := ⟨_, rfl⟩
      have HN : Hid (nxt (all.drop k1) = N1 ∧ kd (all.drop k1) = K1 ∧ ((N1 = 1 ↔ K1 = 1) ∧ (N1 = 3 ↔ K1 = 3) ∧ ∀ i : Nat, i < 13 → (N1 = 10 + (i : Int) ↔ K1 = 10 + (i : Int)))) := ⟨hN1, hK1, HP.out.rq.nk k1 hN1 hK1⟩
      clear hN1 hK1
      go_wp2_with fail
      refine (is_any HP.out.rq 1 (by omega) _ rfl HN.out.2.1).mono ?_
      rintro x w6 ⟨rfl, hg⟩
      have H6 : Hid (RQ R tA c all e w6 k1 0 0 ∧ Mv w w6 R none ∧ OwnI 3 w6 w.heap.size (.slice A xs.length cc) xs ∧ R < w.heap.size ∧ (∀ g, tA = some ⟨g, 0, none⟩ → all ≠ [] → g < w.heap.size) ∧ CuQ q) := ⟨HP.out.rq.grown hg, HP.out.mv.and (hg.mv R), HF.out.1.step (fun k h1 _ => hg.below.block k h1), HP.out.Rlt, HP.out.glt, HP.out.cur⟩
      clear hg HP
      generalize hb : (K1 == 10 + ((1 : Nat) : Int)) = b
      have HB : Hid ((K1 == 10 + ((1 : Nat) : Int)) = b) := hb
      clear hb
      cases b
      · have HNE : Hid (N1 ≠ 11) := fun h => by
          have h2 := (HN.out.2.2.2.2 1 (by omega)).1 (by omega)
          have h3 := HB.out
          rw [h2] at h3
          simp at h3
        by_cases hq : q = -1
        · have HQ : Hid (q = -1) := hq
          subst hq
          clear HQ
          go_wp2_with fail
          refine (took_any H6.out.1 4 (by omega) _ rfl HN.out.2.1).mono ?_
          rintro x w7 ⟨rfl, hm, hr⟩
          generalize hb : (K1 == 10 + ((4 : Nat) : Int)) = b
          have HB4 : Hid ((K1 == 10 + ((4 : Nat) : Int)) = b) := hb
          rw [tkk, hb] at hr
          clear hb
          have hown7 : OwnI 3 w7 w.heap.size (.slice A xs.length cc) xs := H6.out.2.2.1.step (fun k h1 h2 => hm.block k h1 (by have := H6.out.2.2.2.1; omega) (by simp))
          cases b
          · have HN14 : Hid (N1 ≠ 14) := fun h => by
              have h2 := (HN.out.2.2.2.2 4 (by omega)).1 (by omega)
              have h3 := HB4.out
              rw [h2] at h3
              simp at h3
            have hr' : RQ R tA c all e w7 k1 0 0 := hr
            have H7 : Hid (RQ R tA c all e w7 k1 0 0 ∧ Mv w w7 R none ∧ OwnI 3 w7 w.heap.size (.slice A xs.length cc) xs ∧ R < w.heap.size ∧ (∀ g, tA = some ⟨g, 0, none⟩ → all ≠ [] → g < w.heap.size)) := ⟨hr', H6.out.2.1.and hm, hown7, H6.out.2.2.2.1, H6.out.2.2.2.2.1⟩
            have HQ : Hid (N1 ≠ 11 ∧ ((-1 : Int) < 0 → N1 ≠ 14)) := ⟨HNE.out, fun _ => HN14.out⟩
            have HCU : Hid (CuQ (-1)) := .inl rfl
            clear hm hr hr' hown7 H6 HB HB4 HNE HN14
            obtain ⟨r0, r1, -, -, -⟩ := H7.out.1.cells
            by_cases h512 : xs.length = 512
            · have d1 : decide ((512 : Int) ≤ (xs.length : Int)) = true := by simp; omega
              have HL : Hid (xs.length = 512) := h512
              clear h512
              go_wp2_with fail
              refine (kind_any H7.out.1).mono ?_
              rintro x w8 ⟨rfl, hg⟩
              rw [HN.out.2.1]
              have H8 : Hid (RQ R tA c all e w8 k1 0 0 ∧ Mv w w8 R none ∧ OwnI 3 w8 w.heap.size (.slice A xs.length cc) xs ∧ R < w.heap.size ∧ (∀ g, tA = some ⟨g, 0, none⟩ → all ≠ [] → g < w.heap.size)) := ⟨H7.out.1.grown hg, H7.out.2.1.and (hg.mv R), H7.out.2.2.1.step (fun k h1 _ => hg.below.block k h1), H7.out.2.2.2.1, H7.out.2.2.2.2⟩
              clear hg H7 r0 r1
              obtain ⟨r0, r1, -, -, -⟩ := H8.out.1.cells
              cases hk1 : (K1 == 1)
              · go_wp2_with fail
                refine (kind_any H8.out.1).mono ?_
                rintro x w9 ⟨rfl, hg⟩
                rw [HN.out.2.1]
                have H9 : Hid (RQ R tA c all e w9 k1 0 0 ∧ Mv w w9 R none ∧ OwnI 3 w9 w.heap.size (.slice A xs.length cc) xs ∧ R < w.heap.size ∧ (∀ g, tA = some ⟨g, 0, none⟩ → all ≠ [] → g < w.heap.size)) := ⟨H8.out.1.grown hg, H8.out.2.1.and (hg.mv R), H8.out.2.2.1.step (fun k h1 _ => hg.below.block k h1), H8.out.2.2.2.1, H8.out.2.2.2.2⟩
                clear hg H8 r0 r1
                obtain ⟨r0, r1, -, -, -⟩ := H9.out.1.cells
                cases hk3 : (K1 == 3)
                · have HBD : Hid (S = .no (atOf e (all.drop k1)) 50 ∧ pieceT e (all.drop k1) = .no (atOf e (all.drop k1)) 50) := by
                    have g1 : nxt (all.drop k1) ≠ 1 := fun h => by
                      have h2 := HN.out.2.2.1.1 (HN.out.1 ▸ h)
                      rw [h2] at hk1
                      cases hk1
                    have g3 : nxt (all.drop k1) ≠ 3 := fun h => by
                      have h2 := HN.out.2.2.2.1.1 (HN.out.1 ▸ h)
                      rw [h2] at hk3
                      cases hk3
                    exact ⟨by rw [HF.out.2.1]; exact tailX_bad e _ xs g1 g3 (by rw [HN.out.1]; exact HQ.out.1) (by rw [HN.out.1]; exact HQ.out.2), piece_bad e g1 g3⟩
                  clear r0 r1
                  go_wp2_with fail
                  refine (qpiece_any H9.out.1).mono ?_
                  intro x wA hx
                  obtain ⟨hm, hx⟩ := hx
                  rw [HBD.out.2] at hx
                  obtain ⟨v, k', rfl, ⟨m, rfl⟩, hr⟩ := hx
                  have HA : Hid (Mv w wA R none ∧ RQ R tA c all e wA k' (atOf e (all.drop k1)) 50 ∧ OwnI 3 wA w.heap.size (.slice A xs.length cc) xs) := ⟨H9.out.2.1.and hm, hr, H9.out.2.2.1.step (fun k h1 h2 => hm.block k h1 (by have := H9.out.2.2.2.1; omega) (by simp))⟩
                  clear hm hr
                  obtain ⟨ms, hms, ha2⟩ := HA.out.2.2
                  have HM : Hid (wA.ownsRow w.heap.size 58 8 (.slice A xs.length cc) xs.length (fi ms) ∧ ms.length = xs.length) := ⟨by have h0 := hms; rw [ha2.length] at h0; exact h0, ha2.length⟩
                  have hzA := HA.out.1.size
                  clear hms ha2
                  go_wp2_with (first | (at_builtin; go_must (refine push_G rfl _ _ rfl w.heap.size _ xs.length ms rfl (World.ownsRow.alloc HM.out.1 _) HM.out.2 wA.heap.size 1 m rfl (World.alloc_heap_new _ _) (by omega) (by simp; omega) ?_); intro A8 c8 wB hO8 hg8) | fail)
                  have hlo := HM.out.1.lt
                  have hb8 : ∀ b, b < w.heap.size → wB.heap[b]? = wA.heap[b]? := fun b hb => (hg8.block b (by simp; omega) (fun h => by have := (hlo b h.symm).1; omega)).trans (Below.heap_alloc _ _ _ (by omega))
                  have HE : Hid (RTq R tA c all e w wB S 0 k' (atOf e (all.drop k1)) 50 (.slice A8 (xs.length + 1) c8) (-1)) :=
                    ⟨(HA.out.1.alloc _).trans (Mv.of_grown hg8) (.inr fun g h => (hlo g h).1), HA.out.2.1.low H9.out.2.2.2.1 H9.out.2.2.2.2 hb8, H9.out.2.2.2.1, H9.out.2.2.2.2, ⟨ms ++ [m], _, _, _, rfl, by rw [List.length_append, HM.out.2]; rfl, hO8⟩, HCU.out, fun h => absurd h (by omega), fun _ => ⟨HBD.out.1, rfl⟩⟩
                  have HK : Hid (gk = mq xs.length (-1)) := HF.out.2.2
                  clear hO8 hg8 hlo hb8
                  go_roundg 0
                  case measure => have h9 := HK.out; unfold mq at h9; omega
                  case rel => exact ⟨_, _, _, _, rfl, HE.out⟩
                · have HS : Hid (S = .no (atOf e (all.drop k1)) 52) := by
                    have g3 : nxt (all.drop k1) = 3 := by rw [HN.out.1]; exact HN.out.2.2.2.1.2 (beq_iff_eq.1 hk3)
                    show _ = _
                    rw [HF.out.2.1]
                    exact tailX_many e _ xs (by rw [bit386, g3]; decide) HL.out
                  go_wp2_with fail
                  refine (wrong_any H9.out.1 k1 52 rfl).mono ?_
                  rintro x wA ⟨rfl, hm, hr⟩
                  rw [nF_zero, nF_zero] at hr
                  have HA : Hid (Mv w wA R none ∧ RQ R tA c all e wA k1 (atOf e (all.drop k1)) 52) := ⟨H9.out.2.1.and hm, hr⟩
                  clear hm hr
                  go_wp2
                  refine bodyPost_ret (results_tmp2 rfl _ _ _) rfl ?_
                  unfold OutQ
                  rw [HS.out]
                  exact ⟨HA.out.1, _, k1, rfl, ⟨_, _, _, _, rfl⟩, HA.out.2⟩
              · have HS : Hid (S = .no (atOf e (all.drop k1)) 52) := by
                  have g1 : nxt (all.drop k1) = 1 := by rw [HN.out.1]; exact HN.out.2.2.1.2 (beq_iff_eq.1 hk1)
                  show _ = _
                  rw [HF.out.2.1]
                  exact tailX_many e _ xs (by rw [bit386, g1]; decide) HL.out
                go_wp2_with fail
                refine (wrong_any H8.out.1 k1 52 rfl).mono ?_
                rintro x wA ⟨rfl, hm, hr⟩
                rw [nF_zero, nF_zero] at hr
                have HA : Hid (Mv w wA R none ∧ RQ R tA c all e wA k1 (atOf e (all.drop k1)) 52) := ⟨H8.out.2.1.and hm, hr⟩
                clear hm hr
                go_wp2
                refine bodyPost_ret (results_tmp2 rfl _ _ _) rfl ?_
                unfold OutQ
                rw [HS.out]
                exact ⟨HA.out.1, _, k1, rfl, ⟨_, _, _, _, rfl⟩, HA.out.2⟩
            · have d1 : decide ((512 : Int) ≤ (xs.length : Int)) = false := by simp; omega
              have HL : Hid (xs.length < 512) := by
                show _ < _
                omega
              have HS : Hid (S = (pieceT e (all.drop k1)).bind fun y r => tailX e (-1) (xs ++ [y]) r) := by
                show _ = _
                rw [HF.out.2.1]
                by_cases g : nxt (all.drop k1) = 1 ∨ nxt (all.drop k1) = 3
                · exact tailX_step e _ xs (by rw [bit386]; exact decide_eq_true g) HL.out
                · have g1 : nxt (all.drop k1) ≠ 1 := fun h => g (.inl h)
                  have g3 : nxt (all.drop k1) ≠ 3 := fun h => g (.inr h)
                  rw [piece_bad e g1 g3]
                  exact tailX_bad e _ xs g1 g3 (by rw [HN.out.1]; exact HQ.out.1) (by rw [HN.out.1]; exact HQ.out.2)
              clear r0 r1 h512
              go_wp2_with fail
              refine (qpiece_any H7.out.1).mono ?_
              intro x wA hx
              obtain ⟨hm, hx⟩ := hx
              cases hp : pieceT e (all.drop k1) with
              | no a cd =>
                rw [hp] at hx
                obtain ⟨v, k', rfl, ⟨m, rfl⟩, hr⟩ := hx
                have hcd : cd ≠ 0 := nz_piece e _ a cd hp
                have HA : Hid (Mv w wA R none ∧ RQ R tA c all e wA k' a cd ∧ OwnI 3 wA w.heap.size (.slice A xs.length cc) xs) := ⟨H7.out.2.1.and hm, hr, H7.out.2.2.1.step (fun k h1 h2 => hm.block k h1 (by have := H7.out.2.2.2.1; omega) (by simp))⟩
                have HSN : Hid (S = .no a cd ∧ cd ≠ 0) := ⟨by rw [HS.out, hp]; rfl, hcd⟩
                clear hm hr hp hcd
                obtain ⟨ms, hms, ha2⟩ := HA.out.2.2
                have HM : Hid (wA.ownsRow w.heap.size 58 8 (.slice A xs.length cc) xs.length (fi ms) ∧ ms.length = xs.length) := ⟨by have h0 := hms; rw [ha2.length] at h0; exact h0, ha2.length⟩
                have hzA := HA.out.1.size
                clear hms ha2
                go_wp2_with (first | (at_builtin; go_must (refine push_G rfl _ _ rfl w.heap.size _ xs.length ms rfl (World.ownsRow.alloc HM.out.1 _) HM.out.2 wA.heap.size 1 m rfl (World.alloc_heap_new _ _) (by omega) (by simp; omega) ?_); intro A8 c8 wB hO8 hg8) | fail)
                have hlo := HM.out.1.lt
                have hb8 : ∀ b, b < w.heap.size → wB.heap[b]? = wA.heap[b]? := fun b hb => (hg8.block b (by simp; omega) (fun h => by have := (hlo b h.symm).1; omega)).trans (Below.heap_alloc _ _ _ (by omega))
                have HE : Hid (RTq R tA c all e w wB S 0 k' a cd (.slice A8 (xs.length + 1) c8) (-1)) :=
                  ⟨(HA.out.1.alloc _).trans (Mv.of_grown hg8) (.inr fun g h => (hlo g h).1), HA.out.2.1.low H7.out.2.2.2.1 H7.out.2.2.2.2 hb8, H7.out.2.2.2.1, H7.out.2.2.2.2, ⟨ms ++ [m], _, _, _, rfl, by rw [List.length_append, HM.out.2]; rfl, hO8⟩, HCU.out, fun h => absurd h HSN.out.2, fun _ => ⟨HSN.out.1, rfl⟩⟩
                have HK : Hid (gk = mq xs.length (-1)) := HF.out.2.2
                clear hO8 hg8 hlo hb8
                go_roundg 0
                case measure => have h9 := HK.out; unfold mq at h9; omega
                case rel => exact ⟨_, _, _, _, rfl, HE.out⟩
              | ok y r =>
                rw [hp] at hx
                obtain ⟨v, k', rfl, ⟨m, rfl, hD⟩, hdr, hr⟩ := hx
                have HA : Hid (Mv w wA R none ∧ RQ R tA c all e wA k' 0 0 ∧ S = tailX e (-1) (xs ++ [y]) (all.drop k') ∧ OwnI 3 wA w.heap.size (.slice A xs.length cc) xs ∧ DR 3 wA w7.heap.size none m y ∧ w.heap.size ≤ w7.heap.size ∧ w7.heap.size ≤ wA.heap.size ∧ ∀ g, (Value.slice A xs.length cc).ownBlock = some g → g < w7.heap.size) :=
                  ⟨H7.out.2.1.and hm, hr, by rw [HS.out, hp, hdr]; rfl, H7.out.2.2.1.step (fun k h1 h2 => hm.block k h1 (by have := H7.out.2.2.2.1; omega) (by simp)), hD, H7.out.2.1.size, hm.size, fun g h => (H7.out.2.2.1.lt g h).2⟩
                clear hm hr hp hdr hD
                have hzA := HA.out.1.size
                go_wp2_with (first | (at_builtin; go_must (refine push_I rfl _ _ 42 rfl Tryz.underlying42 3 w.heap.size _ xs rfl (HA.out.2.2.2.1.step (fun k h1 _ => Below.heap_alloc _ _ _ h1)) wA.heap.size 1 m y rfl (World.alloc_heap_new _ _) (HA.out.2.2.2.2.1.step HA.out.2.2.2.2.2.1 (.inr (.inr fun g h => .inr (HA.out.2.2.2.2.2.2.2 g h))) (fun k h1 _ _ => Below.heap_alloc _ _ _ h1)) (by omega) (by simp; omega) ?_); intro A8 c8 wB hO8 hg8 hob8) | fail)
                have hlo := HA.out.2.2.2.1.lt
                have hb8 : ∀ b, b < w.heap.size → wB.heap[b]? = wA.heap[b]? := fun b hb => (hg8.block b (by simp; omega) (fun h => by have := (hlo b h.symm).1; omega)).trans (Below.heap_alloc _ _ _ (by omega))
                have HE : Hid (RTq R tA c all e w wB S (mq (xs.length + 1) (-1)) k' 0 0 (.slice A8 (xs.length + 1) c8) (-1)) := by
                  refine ⟨(HA.out.1.alloc _).trans (Mv.of_grown hg8) (.inr fun g h => (hlo g h).1), HA.out.2.1.low H7.out.2.2.2.1 H7.out.2.2.2.2 hb8, H7.out.2.2.2.1, H7.out.2.2.2.2, ?_, HCU.out, fun _ => ⟨rfl, xs ++ [y], A8, c8, by rw [List.length_append]; rfl, hO8, by rw [List.length_append]; have := HL.out; simp; omega, HA.out.2.2.1, by rw [List.length_append]; rfl⟩, fun h => absurd rfl h⟩
                  obtain ⟨ms8, q1, q2⟩ := hO8
                  have q3 := q2.length
                  rw [List.length_append] at q3
                  refine ⟨ms8, _, _, _, rfl, q3, ?_⟩
                  rw [q3] at q1
                  exact q1
                have HK : Hid (gk = mq xs.length (-1)) := HF.out.2.2
                clear hO8 hg8 hlo hb8 hob8
                go_roundg (mq (xs.length + 1) (-1))
                case measure => have h9 := HK.out; have := HL.out; unfold mq at h9 ⊢; omega
                case rel => exact ⟨_, _, _, _, rfl, HE.out⟩

          · have HN14 : Hid (nxt (all.drop k1) = 14) := by
              have h3 := beq_iff_eq.1 HB4.out
              have h4 := (HN.out.2.2.2.2 4 (by omega)).2 h3
              show _ = _
              rw [HN.out.1]; omega
            have hr' : RQ R tA c all e w7 (k1 + 1) 0 0 := hr
            have htl : all.drop (k1 + 1) = (all.drop k1).tail := by rw [List.tail_drop]
            have HE : Hid (RTq R tA c all e w w7 S (mq xs.length (xs.length : Int)) (k1 + 1) 0 0 (.slice A xs.length cc) (xs.length : Int)) := by
              refine ⟨H6.out.2.1.and hm, hr', H6.out.2.2.2.1, H6.out.2.2.2.2.1, ?_, .inr ⟨xs.length, rfl, hn⟩, fun _ => ⟨rfl, xs, A, cc, rfl, hown7, hn, ?_, ?_⟩, fun h => absurd rfl h⟩
              · obtain ⟨ms8, q1, q2⟩ := hown7
                have q3 := q2.length
                refine ⟨ms8, _, _, _, rfl, q3, ?_⟩
                rw [q3] at q1
                exact q1
              · rw [HF.out.2.1, tailX_bar e xs HN14.out, htl]
              · rfl
            have HK : Hid (gk = mq xs.length (-1)) := HF.out.2.2
            clear hm hr hr' htl hown7 H6 HB HB4 HNE HN14
            go_wp2_with fail
            go_roundg (mq xs.length (xs.length : Int))
            case measure =>
              have h9 := HK.out
              unfold mq at h9 ⊢
              rw [if_neg (show ¬ ((xs.length : Int) < 0) by omega)]
              rw [if_pos (show (-1 : Int) < 0 by omega)] at h9
              omega
            case rel => exact ⟨_, _, _, _, rfl, HE.out⟩
        · obtain ⟨n, hqn, hn512⟩ := H6.out.2.2.2.2.2.resolve_left hq
          subst hqn
          clear hq
          have e14 : decide ((n : Int) < 0) = false := by simp
          have HQ : Hid (N1 ≠ 11 ∧ ((n : Int) < 0 → N1 ≠ 14)) := ⟨HNE.out, fun h => absurd h (by omega)⟩
          have HCU : Hid (CuQ (n : Int)) := .inr ⟨n, rfl, hn512⟩
          have H7 : Hid (RQ R tA c all e w6 k1 0 0 ∧ Mv w w6 R none ∧ OwnI 3 w6 w.heap.size (.slice A xs.length cc) xs ∧ R < w.heap.size ∧ (∀ g, tA = some ⟨g, 0, none⟩ → all ≠ [] → g < w.heap.size)) := ⟨H6.out.1, H6.out.2.1, H6.out.2.2.1, H6.out.2.2.2.1, H6.out.2.2.2.2.1⟩
          clear H6 HB HNE
          obtain ⟨w7, hw7⟩ : ∃ w7, w7 = w6 := ⟨_, rfl⟩
          rw [← hw7] at H7 ⊢
          clear hw7
          obtain ⟨r0, r1, -, -, -⟩ := H7.out.1.cells
          by_cases h512 : xs.length = 512
          · have d1 : decide ((512 : Int) ≤ (xs.length : Int)) = true := by simp; omega
            have HL : Hid (xs.length = 512) := h512
            clear h512
            go_wp2_with fail
            refine (kind_any H7.out.1).mono ?_
            rintro x w8 ⟨rfl, hg⟩
            rw [HN.out.2.1]
            have H8 : Hid (RQ R tA c all e w8 k1 0 0 ∧ Mv w w8 R none ∧ OwnI 3 w8 w.heap.size (.slice A xs.length cc) xs ∧ R < w.heap.size ∧ (∀ g, tA = some ⟨g, 0, none⟩ → all ≠ [] → g < w.heap.size)) := ⟨H7.out.1.grown hg, H7.out.2.1.and (hg.mv R), H7.out.2.2.1.step (fun k h1 _ => hg.below.block k h1), H7.out.2.2.2.1, H7.out.2.2.2.2⟩
            clear hg H7 r0 r1
            obtain ⟨r0, r1, -, -, -⟩ := H8.out.1.cells
            cases hk1 : (K1 == 1)
            · go_wp2_with fail
              refine (kind_any H8.out.1).mono ?_
              rintro x w9 ⟨rfl, hg⟩
              rw [HN.out.2.1]
              have H9 : Hid (RQ R tA c all e w9 k1 0 0 ∧ Mv w w9 R none ∧ OwnI 3 w9 w.heap.size (.slice A xs.length cc) xs ∧ R < w.heap.size ∧ (∀ g, tA = some ⟨g, 0, none⟩ → all ≠ [] → g < w.heap.size)) := ⟨H8.out.1.grown hg, H8.out.2.1.and (hg.mv R), H8.out.2.2.1.step (fun k h1 _ => hg.below.block k h1), H8.out.2.2.2.1, H8.out.2.2.2.2⟩
              clear hg H8 r0 r1
              obtain ⟨r0, r1, -, -, -⟩ := H9.out.1.cells
              cases hk3 : (K1 == 3)
              · have HBD : Hid (S = .no (atOf e (all.drop k1)) 50 ∧ pieceT e (all.drop k1) = .no (atOf e (all.drop k1)) 50) := by
                  have g1 : nxt (all.drop k1) ≠ 1 := fun h => by
                    have h2 := HN.out.2.2.1.1 (HN.out.1 ▸ h)
                    rw [h2] at hk1
                    cases hk1
                  have g3 : nxt (all.drop k1) ≠ 3 := fun h => by
                    have h2 := HN.out.2.2.2.1.1 (HN.out.1 ▸ h)
                    rw [h2] at hk3
                    cases hk3
                  exact ⟨by rw [HF.out.2.1]; exact tailX_bad e _ xs g1 g3 (by rw [HN.out.1]; exact HQ.out.1) (by rw [HN.out.1]; exact HQ.out.2), piece_bad e g1 g3⟩
                clear r0 r1
                go_wp2_with fail
                refine (qpiece_any H9.out.1).mono ?_
                intro x wA hx
                obtain ⟨hm, hx⟩ := hx
                rw [HBD.out.2] at hx
                obtain ⟨v, k', rfl, ⟨m, rfl⟩, hr⟩ := hx
                have HA : Hid (Mv w wA R none ∧ RQ R tA c all e wA k' (atOf e (all.drop k1)) 50 ∧ OwnI 3 wA w.heap.size (.slice A xs.length cc) xs) := ⟨H9.out.2.1.and hm, hr, H9.out.2.2.1.step (fun k h1 h2 => hm.block k h1 (by have := H9.out.2.2.2.1; omega) (by simp))⟩
                clear hm hr
                obtain ⟨ms, hms, ha2⟩ := HA.out.2.2
                have HM : Hid (wA.ownsRow w.heap.size 58 8 (.slice A xs.length cc) xs.length (fi ms) ∧ ms.length = xs.length) := ⟨by have h0 := hms; rw [ha2.length] at h0; exact h0, ha2.length⟩
                have hzA := HA.out.1.size
                clear hms ha2
                go_wp2_with (first | (at_builtin; go_must (refine push_G rfl _ _ rfl w.heap.size _ xs.length ms rfl (World.ownsRow.alloc HM.out.1 _) HM.out.2 wA.heap.size 1 m rfl (World.alloc_heap_new _ _) (by omega) (by simp; omega) ?_); intro A8 c8 wB hO8 hg8) | fail)
                have hlo := HM.out.1.lt
                have hb8 : ∀ b, b < w.heap.size → wB.heap[b]? = wA.heap[b]? := fun b hb => (hg8.block b (by simp; omega) (fun h => by have := (hlo b h.symm).1; omega)).trans (Below.heap_alloc _ _ _ (by omega))
                have HE : Hid (RTq R tA c all e w wB S 0 k' (atOf e (all.drop k1)) 50 (.slice A8 (xs.length + 1) c8) (n : Int)) :=
                  ⟨(HA.out.1.alloc _).trans (Mv.of_grown hg8) (.inr fun g h => (hlo g h).1), HA.out.2.1.low H9.out.2.2.2.1 H9.out.2.2.2.2 hb8, H9.out.2.2.2.1, H9.out.2.2.2.2, ⟨ms ++ [m], _, _, _, rfl, by rw [List.length_append, HM.out.2]; rfl, hO8⟩, HCU.out, fun h => absurd h (by omega), fun _ => ⟨HBD.out.1, rfl⟩⟩
                have HK : Hid (gk = mq xs.length (n : Int)) := HF.out.2.2
                clear hO8 hg8 hlo hb8
                go_roundg 0
                case measure => have h9 := HK.out; unfold mq at h9; omega
                case rel => exact ⟨_, _, _, _, rfl, HE.out⟩
              · have HS : Hid (S = .no (atOf e (all.drop k1)) 52) := by
                  have g3 : nxt (all.drop k1) = 3 := by rw [HN.out.1]; exact HN.out.2.2.2.1.2 (beq_iff_eq.1 hk3)
                  show _ = _
                  rw [HF.out.2.1]
                  exact tailX_many e _ xs (by rw [bit386, g3]; decide) HL.out
                go_wp2_with fail
                refine (wrong_any H9.out.1 k1 52 rfl).mono ?_
                rintro x wA ⟨rfl, hm, hr⟩
                rw [nF_zero, nF_zero] at hr
                have HA : Hid (Mv w wA R none ∧ RQ R tA c all e wA k1 (atOf e (all.drop k1)) 52) := ⟨H9.out.2.1.and hm, hr⟩
                clear hm hr
                go_wp2
                refine bodyPost_ret (results_tmp2 rfl _ _ _) rfl ?_
                unfold OutQ
                rw [HS.out]
                exact ⟨HA.out.1, _, k1, rfl, ⟨_, _, _, _, rfl⟩, HA.out.2⟩
            · have HS : Hid (S = .no (atOf e (all.drop k1)) 52) := by
                have g1 : nxt (all.drop k1) = 1 := by rw [HN.out.1]; exact HN.out.2.2.1.2 (beq_iff_eq.1 hk1)
                show _ = _
                rw [HF.out.2.1]
                exact tailX_many e _ xs (by rw [bit386, g1]; decide) HL.out
              go_wp2_with fail
              refine (wrong_any H8.out.1 k1 52 rfl).mono ?_
              rintro x wA ⟨rfl, hm, hr⟩
              rw [nF_zero, nF_zero] at hr
              have HA : Hid (Mv w wA R none ∧ RQ R tA c all e wA k1 (atOf e (all.drop k1)) 52) := ⟨H8.out.2.1.and hm, hr⟩
              clear hm hr
              go_wp2
              refine bodyPost_ret (results_tmp2 rfl _ _ _) rfl ?_
              unfold OutQ
              rw [HS.out]
              exact ⟨HA.out.1, _, k1, rfl, ⟨_, _, _, _, rfl⟩, HA.out.2⟩
          · have d1 : decide ((512 : Int) ≤ (xs.length : Int)) = false := by simp; omega
            have HL : Hid (xs.length < 512) := by
              show _ < _
              omega
            have HS : Hid (S = (pieceT e (all.drop k1)).bind fun y r => tailX e (n : Int) (xs ++ [y]) r) := by
              show _ = _
              rw [HF.out.2.1]
              by_cases g : nxt (all.drop k1) = 1 ∨ nxt (all.drop k1) = 3
              · exact tailX_step e _ xs (by rw [bit386]; exact decide_eq_true g) HL.out
              · have g1 : nxt (all.drop k1) ≠ 1 := fun h => g (.inl h)
                have g3 : nxt (all.drop k1) ≠ 3 := fun h => g (.inr h)
                rw [piece_bad e g1 g3]
                exact tailX_bad e _ xs g1 g3 (by rw [HN.out.1]; exact HQ.out.1) (by rw [HN.out.1]; exact HQ.out.2)
            clear r0 r1 h512
            go_wp2_with fail
            refine (qpiece_any H7.out.1).mono ?_
            intro x wA hx
            obtain ⟨hm, hx⟩ := hx
            cases hp : pieceT e (all.drop k1) with
            | no a cd =>
              rw [hp] at hx
              obtain ⟨v, k', rfl, ⟨m, rfl⟩, hr⟩ := hx
              have hcd : cd ≠ 0 := nz_piece e _ a cd hp
              have HA : Hid (Mv w wA R none ∧ RQ R tA c all e wA k' a cd ∧ OwnI 3 wA w.heap.size (.slice A xs.length cc) xs) := ⟨H7.out.2.1.and hm, hr, H7.out.2.2.1.step (fun k h1 h2 => hm.block k h1 (by have := H7.out.2.2.2.1; omega) (by simp))⟩
              have HSN : Hid (S = .no a cd ∧ cd ≠ 0) := ⟨by rw [HS.out, hp]; rfl, hcd⟩
              clear hm hr hp hcd
              obtain ⟨ms, hms, ha2⟩ := HA.out.2.2
              have HM : Hid (wA.ownsRow w.heap.size 58 8 (.slice A xs.length cc) xs.length (fi ms) ∧ ms.length = xs.length) := ⟨by have h0 := hms; rw [ha2.length] at h0; exact h0, ha2.length⟩
              have hzA := HA.out.1.size
              clear hms ha2
              go_wp2_with (first | (at_builtin; go_must (refine push_G rfl _ _ rfl w.heap.size _ xs.length ms rfl (World.ownsRow.alloc HM.out.1 _) HM.out.2 wA.heap.size 1 m rfl (World.alloc_heap_new _ _) (by omega) (by simp; omega) ?_); intro A8 c8 wB hO8 hg8) | fail)
              have hlo := HM.out.1.lt
              have hb8 : ∀ b, b < w.heap.size → wB.heap[b]? = wA.heap[b]? := fun b hb => (hg8.block b (by simp; omega) (fun h => by have := (hlo b h.symm).1; omega)).trans (Below.heap_alloc _ _ _ (by omega))
              have HE : Hid (RTq R tA c all e w wB S 0 k' a cd (.slice A8 (xs.length + 1) c8) (n : Int)) :=
                ⟨(HA.out.1.alloc _).trans (Mv.of_grown hg8) (.inr fun g h => (hlo g h).1), HA.out.2.1.low H7.out.2.2.2.1 H7.out.2.2.2.2 hb8, H7.out.2.2.2.1, H7.out.2.2.2.2, ⟨ms ++ [m], _, _, _, rfl, by rw [List.length_append, HM.out.2]; rfl, hO8⟩, HCU.out, fun h => absurd h HSN.out.2, fun _ => ⟨HSN.out.1, rfl⟩⟩
              have HK : Hid (gk = mq xs.length (n : Int)) := HF.out.2.2
              clear hO8 hg8 hlo hb8
              go_roundg 0
              case measure => have h9 := HK.out; unfold mq at h9; omega
              case rel => exact ⟨_, _, _, _, rfl, HE.out⟩
            | ok y r =>
              rw [hp] at hx
              obtain ⟨v, k', rfl, ⟨m, rfl, hD⟩, hdr, hr⟩ := hx
              have HA : Hid (Mv w wA R none ∧ RQ R tA c all e wA k' 0 0 ∧ S = tailX e (n : Int) (xs ++ [y]) (all.drop k') ∧ OwnI 3 wA w.heap.size (.slice A xs.length cc) xs ∧ DR 3 wA w7.heap.size none m y ∧ w.heap.size ≤ w7.heap.size ∧ w7.heap.size ≤ wA.heap.size ∧ ∀ g, (Value.slice A xs.length cc).ownBlock = some g → g < w7.heap.size) :=
                ⟨H7.out.2.1.and hm, hr, by rw [HS.out, hp, hdr]; rfl, H7.out.2.2.1.step (fun k h1 h2 => hm.block k h1 (by have := H7.out.2.2.2.1; omega) (by simp)), hD, H7.out.2.1.size, hm.size, fun g h => (H7.out.2.2.1.lt g h).2⟩
              clear hm hr hp hdr hD
              have hzA := HA.out.1.size
              go_wp2_with (first | (at_builtin; go_must (refine push_I rfl _ _ 42 rfl Tryz.underlying42 3 w.heap.size _ xs rfl (HA.out.2.2.2.1.step (fun k h1 _ => Below.heap_alloc _ _ _ h1)) wA.heap.size 1 m y rfl (World.alloc_heap_new _ _) (HA.out.2.2.2.2.1.step HA.out.2.2.2.2.2.1 (.inr (.inr fun g h => .inr (HA.out.2.2.2.2.2.2.2 g h))) (fun k h1 _ _ => Below.heap_alloc _ _ _ h1)) (by omega) (by simp; omega) ?_); intro A8 c8 wB hO8 hg8 hob8) | fail)
              have hlo := HA.out.2.2.2.1.lt
              have hb8 : ∀ b, b < w.heap.size → wB.heap[b]? = wA.heap[b]? := fun b hb => (hg8.block b (by simp; omega) (fun h => by have := (hlo b h.symm).1; omega)).trans (Below.heap_alloc _ _ _ (by omega))
              have HE : Hid (RTq R tA c all e w wB S (mq (xs.length + 1) (n : Int)) k' 0 0 (.slice A8 (xs.length + 1) c8) (n : Int)) := by
                refine ⟨(HA.out.1.alloc _).trans (Mv.of_grown hg8) (.inr fun g h => (hlo g h).1), HA.out.2.1.low H7.out.2.2.2.1 H7.out.2.2.2.2 hb8, H7.out.2.2.2.1, H7.out.2.2.2.2, ?_, HCU.out, fun _ => ⟨rfl, xs ++ [y], A8, c8, by rw [List.length_append]; rfl, hO8, by rw [List.length_append]; have := HL.out; simp; omega, HA.out.2.2.1, by rw [List.length_append]; rfl⟩, fun h => absurd rfl h⟩
                obtain ⟨ms8, q1, q2⟩ := hO8
                have q3 := q2.length
                rw [List.length_append] at q3
                refine ⟨ms8, _, _, _, rfl, q3, ?_⟩
                rw [q3] at q1
                exact q1
              have HK : Hid (gk = mq xs.length (n : Int)) := HF.out.2.2
              clear hO8 hg8 hlo hb8 hob8
              go_roundg (mq (xs.length + 1) (n : Int))
              case measure => have h9 := HK.out; have := HL.out; unfold mq at h9 ⊢; omega
              case rel => exact ⟨_, _, _, _, rfl, HE.out⟩

      · have h11 : nxt (all.drop k1) = 11 := by
          have h3 := beq_iff_eq.1 HB.out
          have h4 := (HN.out.2.2.2.2 1 (by omega)).2 h3
          rw [HN.out.1]; omega
        have HS : Hid (S = .ok (xs, if q < 0 then (xs.length : Int) else q) (all.drop k1)) := by
          show _ = _
          rw [HF.out.2.1, tailX_end e q xs h11]
        clear h11
        rcases H6.out.2.2.2.2.2 with hq | ⟨n, hqn, hn512⟩
        · subst hq
          go_wp2
          refine bodyPost_ret (results_tmp2 rfl _ _ _) rfl ?_
          unfold OutQ
          rw [HS.out]
          exact ⟨H6.out.2.1, _, k1, rfl, ⟨A, cc, rfl, H6.out.2.2.1.rows⟩, rfl, H6.out.1⟩
        · subst hqn
          have e14 : decide ((n : Int) < 0) = false := by simp
          go_wp2
          refine bodyPost_ret (results_tmp2 rfl _ _ _) rfl ?_
          unfold OutQ
          rw [HS.out, if_neg (by omega)]
          exact ⟨H6.out.2.1, _, k1, rfl, ⟨A, cc, rfl, H6.out.2.2.1.rows⟩, rfl, H6.out.1⟩
    · obtain ⟨hS, hf⟩ := HP.out.bad hfc
      obtain ⟨ms, A, n, cc, hv, -⟩ := HP.out.row
      subst hv
      have HS : Hid (S = .no fa fc) := hS
      have e0 : (fc == 0) = false := by simpa using hfc
      clear hS hf hfc
      rcases HP.out.cur with hq | ⟨n5, hqn, hn512⟩
      · subst hq
        go_wp2_with fail
        refine (fine_any HP.out.rq).mono ?_
        rintro x w5 ⟨rfl, rfl⟩
        rw [e0]
        go_wp2
        refine bodyPost_ret (results_tmp2 rfl _ _ _) rfl ?_
        unfold OutQ
        rw [HS.out]
        exact ⟨HP.out.mv, _, k1, rfl, ⟨_, _, _, _, rfl⟩, HP.out.rq⟩
      · subst hqn
        have e14 : decide ((n5 : Int) < 0) = false := by simp
        go_wp2_with fail
        refine (fine_any HP.out.rq).mono ?_
        rintro x w5 ⟨rfl, rfl⟩
        rw [e0]
        go_wp2
        refine bodyPost_ret (results_tmp2 rfl _ _ _) rfl ?_
        unfold OutQ
        rw [HS.out]
        exact ⟨HP.out.mv, _, k1, rfl, ⟨_, _, _, _, rfl⟩, HP.out.rq⟩
end Go.Proofs
