/-
  The document's reader: a set is read.
-/
import Derived.Deep.RegionWith
import Derived.Deep.AppendLies
import Derived.Deep.DeepCutAuto
import Derived.Deep.RegionLaw
import Derived.Test.YtknaoahokopplaaGreatDoorMgzr
namespace Go.Proofs
open Go.RowKit Go.Shelf

set_option maxRecDepth 100000
attribute [local go_sem] Oper.semAt_some

set_option maxHeartbeats 8000000 in
theorem qitem_set {R : Nat} {tA : Option Addr} {c : Nat} {all : List Tok} {e : Int} {w : World} {k : Nat} (h : RQ R tA c all e w k 0 0) {t : Tok} {r : List Tok} (hd : all.drop k = t :: r) (hw : which t = 18) :
    Calls Tryz.prog 58 #[.pointer (some ⟨R, 0, none⟩)] w (OutQ R tA c all e w (VQ 2 w.heap.size) ShI (sideT e 62 (all.drop k))) := by
  have hN : nxt (all.drop k) = 18 := by rw [hd]; exact hw
  have hK : kd (all.drop k) = 18 := by
    have := ((h.nk k hN rfl).2.2 8 (by omega)).1 (by omega)
    omega
  obtain ⟨K2, hK2⟩ : ∃ K2, kd (all.drop (k + 1)) = K2 := ⟨_, rfl⟩
  have hdr := (drop_next hd).1
  have q2 := (h.nk (k + 1) rfl hK2).2.2 5 (by omega)
  rw [hdr] at q2
  obtain ⟨S, hS⟩ : ∃ S, sideT e 62 (all.drop k) = S := ⟨_, rfl⟩
  have hS2 : S = fin5 e (K2 == 10 + ((5 : Nat) : Int)) [] (rowP e 512 (all.drop (tkk K2 5 (k + 1)))) := by
    rw [← hS, hd, side_set e 62 (.inl rfl) hw]
    unfold tkk passT
    by_cases h15 : nxt r = 15
    · have : K2 = 10 + ((5 : Nat) : Int) := q2.1 (by omega)
      rw [if_pos h15, beq_iff_eq.2 this, if_pos rfl, ← hdr, List.tail_drop]
    · have : (K2 == 10 + ((5 : Nat) : Int)) = false := by
        have : K2 ≠ 10 + ((5 : Nat) : Int) := fun h => h15 (by have := q2.2 h; omega)
        simpa using this
      rw [if_neg h15, this, ← hdr]
      rfl
  have H : Hid (QI R tA c all e w (w.alloc (.cells (mi1 noI).toArray 58)) k 0 0 noI ∧ nxt (all.drop k) = 18 ∧ kd (all.drop k) = 18 ∧ kd (all.drop (k + 1)) = K2 ∧ sideT e 62 (all.drop k) = S ∧ S = fin5 e (K2 == 10 + ((5 : Nat) : Int)) [] (rowP e 512 (all.drop (tkk K2 5 (k + 1))))) := ⟨QI.start h noI, hN, hK, hK2, hS, hS2⟩
  have hlen := h.len
  rw [hS]
  clear h hd hw hN hK hK2 hdr q2 hS hS2
  go_enter Tryz.func58, Tryz.ntmps58
  go_wp2_with fail
  refine (kind_any H.out.1.rq).mono ?_
  rintro x w0 ⟨rfl, hg⟩
  rw [H.out.2.2.1]
  have H0 : Hid (QI R tA c all e w w0 k 0 0 noI) := H.out.1.grown hg.below
  clear hg
  go_wp2_with fail
  refine (qname_no H0.out.rq H.out.2.1 (by decide) (by decide)).mono ?_
  rintro x w1 ⟨rfl, hm, hr⟩
  have H1 : Hid (QI R tA c all e w (w1.alloc (.cells (mi1 noI).toArray 58)) k 0 0 noI) := (H0.out.next hm hr).allocs _
  clear hm hr H0
  go_wp2_with fail
  refine (took_any H1.out.rq 7 (by omega) _ rfl H.out.2.2.1).mono ?_
  rintro x w2 ⟨rfl, hm, hr⟩
  rw [show tkk 18 7 k = k from rfl] at hr
  have H2 : Hid (QI R tA c all e w w2 k 0 0 noI) := H1.out.next hm hr
  clear hm hr H1
  rw [show ((18 : Int) == 10 + ((7 : Nat) : Int)) = false from rfl]
  go_wp2_with fail
  refine (took_any H2.out.rq 8 (by omega) _ rfl H.out.2.2.1).mono ?_
  rintro x w3 ⟨rfl, hm, hr⟩
  rw [show tkk 18 8 k = k + 1 from rfl] at hr
  have H3 : Hid (QI R tA c all e w w3 (k + 1) 0 0 noI) := H2.out.next hm hr
  clear hm hr H2
  rw [show ((18 : Int) == 10 + ((8 : Nat) : Int)) = true from rfl]
  go_wp2_with fail
  refine (took_any H3.out.rq 5 (by omega) _ rfl H.out.2.2.2.1).mono ?_
  rintro x w4 ⟨rfl, hm, hr⟩
  obtain ⟨k2, hk2⟩ : ∃ k2, tkk K2 5 (k + 1) = k2 := ⟨_, rfl⟩
  obtain ⟨nt, hnt⟩ : ∃ nt, (K2 == 10 + ((5 : Nat) : Int)) = nt := ⟨_, rfl⟩
  rw [hk2] at hr
  rw [hnt]
  have H4 : Hid (QI R tA c all e w w4 k2 0 0 noI ∧ S = fin5 e nt [] (rowP e 512 (all.drop k2))) := ⟨H3.out.next hm hr, by rw [← hk2, ← hnt]; exact H.out.2.2.2.2.2⟩
  have HH : Hid (sideT e 62 (all.drop k) = S) := H.out.2.2.2.2.1
  clear hm hr H3 hk2 hnt H
  have hB : w.heap.size < w4.heap.size := H4.out.1.ib.lt
  have HP : Hid (SP R tA c all e w (w4.alloc (.cells (mi1 (seI nt none 0 0)).toArray 58)) w4.heap.size nt S (2 * 513 + 1) k2 0 0 none 0 0 []) :=
    ⟨H4.out.1.allocs _, IB.new _ _, hB, fun _ => ⟨rfl, OwnI.nil _ _ _, rfl, by omega, H4.out.2, rfl⟩, fun h => absurd rfl h⟩
  go_wp2_with fail
  generalize hBe : w4.heap.size = B at HP ⊢
  clear hBe hB H4
  go_loopg [] (2 * 513 + 1) (fun f wr => Hid (∃ k1 fa fc A n cc ps, SP R tA c all e w wr B nt S f k1 fa fc A n cc ps))
  case atStart => exact ⟨_, _, _, _, _, _, _, HP.out⟩
  case round =>
    clear HP
    obtain ⟨wo, rfl⟩ : ∃ wo, wo = wr := ⟨_, rfl⟩
    obtain ⟨k1, fa, fc, A, n, cc, ps, hP⟩ := hrel.out
    clear hrel
    have HP : Hid (SP R tA c all e w wo B nt S gk k1 fa fc A n cc ps) := hP
    clear hP
    by_cases hfc : fc = 0
    · subst hfc
      obtain ⟨rfl, hO, hpl, hn, hS, hf⟩ := HP.out.fine rfl
      have HF : Hid (OwnI 0 wo (B + 1) (.slice A n cc) ps ∧ ps.length = n ∧ S = fin5 e nt ps (rowP e (512 - n) (all.drop k1)) ∧ gk = 2 * (513 - n) + 1) := ⟨hO, hpl, hS, hf⟩
      clear hO hpl hS hf
      go_wp2_with fail
      refine (fine_any HP.out.qi.rq).mono ?_
      rintro x w5 ⟨rfl, rfl⟩
      rw [show ((0 : Int) == 0) = true from rfl]
      obtain ⟨K1, hK1⟩ : ∃ K1, kd (all.drop k1) = K1 := ⟨_, rfl⟩
      obtain ⟨N1, hN1⟩ : ∃ N1, nxt (all.drop k1) = N1 := ⟨_, rfl⟩
      have HK : Hid (kd (all.drop k1) = K1 ∧ nxt (all.drop k1) = N1) := ⟨hK1, hN1⟩
      have q := HP.out.qi.rq.nk k1 hN1 hK1
      have HQ : Hid ((N1 = 1 ↔ K1 = 1) ∧ (N1 = 19 ↔ K1 = 19)) := ⟨q.1, ⟨fun h => by have := (q.2.2 9 (by omega)).1 (by omega); omega, fun h => by have := (q.2.2 9 (by omega)).2 (by omega); omega⟩⟩
      clear hK1 hN1 q
      go_wp2_with fail
      refine (took_any HP.out.qi.rq 9 (by omega) _ rfl HK.out.1).mono ?_
      rintro x w6 ⟨rfl, hm, hr⟩
      by_cases h19 : K1 = 19
      · have e2 : (K1 == 10 + ((9 : Nat) : Int)) = true := by simpa using h19
        rw [tkk, e2, if_pos rfl] at hr
        have hN19 : N1 = 19 := HQ.out.2.2 h19
        obtain ⟨t1, r1, hd1, hwt1⟩ := drop_cons_of_nxt HK.out.2 (by omega)
        have HS : Hid (S = .ok (.mk 5 0 ⟨#[]⟩ ps 0 0 nt 0) r1 ∧ all.drop (k1 + 1) = r1) := by
          refine ⟨?_, (drop_next hd1).1⟩
          rw [HF.out.2.2.1, fin5_end e nt ps _ (by rw [bit78, HK.out.2, hN19]; decide), hd1]
          simp [wantT, nxt, hwt1, hN19, Res.bind]
        have hBs := HP.out.Bgt
        have hRl := HP.out.qi.Rlt
        have H6 : Hid (QI R tA c all e w w6 (k1 + 1) 0 0 noI ∧ IB w6 B (seI nt A n cc) ∧ OwnI 0 w6 (B + 1) (.slice A n cc) ps) := ⟨HP.out.qi.next hm hr, HP.out.ib.mv hm (by omega) (by simp), HF.out.1.step (fun k h1 h2 => hm.block k h1 (by omega) (by simp))⟩
        clear hm hr h19 hN19 hd1 hwt1
        rw [e2]
        clear e2
        obtain ⟨c0, c1, c2, c3, c4, c5, c6, c7⟩ := H6.out.1.ib.cells
        obtain ⟨f0, f1, f2, f3, f4, f5, f6, f7⟩ := H6.out.1.ib.frozen
        obtain ⟨d0, d1, d2, d3, d4, d5, d6, d7⟩ := H6.out.2.1.cells
        go_wp2
        obtain ⟨m1, m2, m3⟩ := H6.out.1.tell (seI nt A n cc)
        refine ret_it rfl rfl m1 ?_
        unfold OutQ
        rw [HS.out.1]
        refine ⟨m2, _, k1 + 1, rfl, ⟨seI nt A n cc, rfl, ⟨rfl, rfl, rfl, rfl, rfl, rfl, rfl⟩, ?_⟩, HS.out.2, m3⟩
        have hrw : Rows 1 (Proofs.set8 w6 w.heap.size (seI nt A n cc)) w.heap.size none A n cc ps := Rows.step (by omega) (.inl rfl) (fun k _ h2 _ => set8_other _ _ _ (by omega)) H6.out.2.2.rows.up
        exact hrw
      · have e2 : (K1 == 10 + ((9 : Nat) : Int)) = false := by simpa using h19
        rw [tkk, e2] at hr
        have hN19 : N1 ≠ 19 := fun h => h19 (HQ.out.2.1 h)
        have H6 : Hid (SP R tA c all e w w6 B nt S gk k1 0 0 A n cc ps ∧ N1 ≠ 19) := by
          have hBs := HP.out.Bgt
          have hRl := HP.out.qi.Rlt
          exact ⟨⟨HP.out.qi.next hm hr, HP.out.ib.mv hm (by omega) (by simp), hBs, fun _ => ⟨rfl, HF.out.1.step (fun k h1 h2 => hm.block k h1 (by omega) (by simp)), HF.out.2.1, hn, HF.out.2.2⟩, fun h => absurd rfl h⟩, hN19⟩
        clear hm hr h19 hN19
        rw [e2]
        clear e2 HP
        obtain ⟨d0, d1, d2, d3, d4, d5, d6, d7⟩ := H6.out.1.ib.cells
        obtain ⟨-, ⟨ms, hms, ha2⟩, hpl, -, hSS, hff⟩ := H6.out.1.fine rfl
        have hmn : ms.length = n := by rw [ha2.length, hpl]
        have HR : Hid (w6.ownsRow (B + 1) 58 8 (.slice A n cc) n (fi ms) ∧ All2 (DR 0 w6 (B + 1) (Value.slice A n cc).ownBlock) ms ps ∧ ms.length = n ∧ ps.length = n ∧ S = fin5 e nt ps (rowP e (512 - n) (all.drop k1)) ∧ gk = 2 * (513 - n) + 1) := ⟨by have h0 := hms; rw [hmn] at h0; exact h0, ha2, hmn, hpl, hSS, hff⟩
        clear hms ha2 hpl hSS hff hmn
        have HSG : Hid (∀ W W' k' fa' fc', Grown w6 W → Mv W W' R none → RQ R tA c all e W' k' fa' fc' → SG R tA c all e w W' B nt k' fa' fc' A n cc ms) := fun W W' k' fa' fc' hg hm hr => by
          have hRl := H6.out.1.qi.Rlt
          have hBg := H6.out.1.Bgt
          have hk : ∀ b, b < w6.heap.size → b ≠ R → W'.heap[b]? = w6.heap[b]? := fun b h1 h2 => (hm.block b (by have := hg.size; omega) h2 (by simp)).trans (hg.below.block b h1)
          refine ⟨(H6.out.1.qi.grown hg.below).next hm hr, (H6.out.1.ib.same (hk B H6.out.1.ib.lt (by omega))), hBg, ⟨HR.out.1.1, HR.out.1.2.imp id ?_⟩, HR.out.2.2.1⟩
          rintro ⟨g, cap, cur, e1, q1, q2, q3⟩
          exact ⟨g, cap, cur, e1, q1, (hk g (Array.getElem?_eq_some_iff.1 q2).1 (by omega)).trans q2, q3⟩
        have HN19 : Hid (N1 ≠ 19) := H6.out.2
        have hn1 : n + 1 ≤ 1000000 := by omega
        generalize hbb : Nat.testBit 78 (begun (nxt (all.drop k1))) = bb
        have HB : Hid (Nat.testBit 78 (begun (nxt (all.drop k1))) = bb) := hbb
        clear hbb
        by_cases h512 : n = 512
        · have g1 : decide ((512 : Int) ≤ (n : Int)) = true := by simp; omega
          have HS52 : Hid (bb = true → S = .no (atOf e (all.drop k1)) 52) := fun hb => by
            rw [HR.out.2.2.2.2.1, h512]
            exact fin5_many e nt ps (by rw [HB.out]; exact hb)
          have HNB : Hid (bb = decide (N1 = 1 ∨ N1 = 36 ∨ N1 = 58)) := by
            show _ = _
            rw [← HB.out, bit78, HK.out.2]
          clear h512
          go_wp2_with fail
          refine (kind_any H6.out.1.qi.rq).mono ?_
          rintro x wk ⟨rfl, hg⟩
          rw [HK.out.1]
          have HG9 : Hid (Grown w6 wk) := hg
          clear hg
          cases hk1 : (K1 == 1)
          · have hN1 : N1 ≠ 1 := fun h => by
              have := HQ.out.1.1 h
              rw [this] at hk1
              cases hk1
            go_wp2_with fail
            refine (qnames_any (H6.out.1.qi.rq.grown HG9.out) 36 (by decide) _ rfl HK.out.2).mono ?_
            rintro x wl ⟨rfl, hg⟩
            rw [show ((UInt8.toNat 36 : Nat) : Int) = 36 from rfl]
            have HGl : Hid (Grown w6 wl) := HG9.out.trans hg
            clear hg HG9
            have HG9 := HGl
            clear HGl
            cases hk2 : (N1 == 36)
            · have hN2 : N1 ≠ 36 := by simpa using hk2
              go_wp2_with fail
              refine (qnames_any (H6.out.1.qi.rq.grown HG9.out) 58 (by decide) _ rfl HK.out.2).mono ?_
              rintro x wm ⟨rfl, hg⟩
              rw [show ((UInt8.toNat 58 : Nat) : Int) = 58 from rfl]
              have HGm : Hid (Grown w6 wm) := HG9.out.trans hg
              clear hg HG9
              have HG9 := HGm
              clear HGm
              cases hk3 : (N1 == 58)
              · have hN3 : N1 ≠ 58 := by simpa using hk3
                obtain rfl : bb = false := by rw [HNB.out]; simp [hN1, hN2, hN3]
                clear hk1 hk2 hk3 hN1 hN2 hN3
                cases hp : partT e (all.drop k1) with
                | ok y r =>
                  exfalso
                  have hb := HB.out
                  rw [bit78, HK.out.2] at hb
                  have hb2 : ¬ (N1 = 1 ∨ N1 = 36 ∨ N1 = 58) := of_decide_eq_false hb
                  have hpb := part_bad e (ts := all.drop k1) (by rw [HK.out.2]; exact fun h => hb2 (.inl h)) (by rw [HK.out.2]; exact fun h => hb2 (.inr (.inl h))) (by rw [HK.out.2]; exact fun h => hb2 (.inr (.inr h)))
                  rw [hpb] at hp
                  cases hp
                | no a cd =>
                  have HS : Hid (S = .no a cd ∧ cd ≠ 0) := by
                    refine ⟨?_, nz_part e _ a cd hp⟩
                    rw [HR.out.2.2.2.2.1, fin5_end e nt ps _ HB.out]
                    have hb := HB.out
                    rw [bit78, HK.out.2] at hb
                    have hb2 : ¬ (N1 = 1 ∨ N1 = 36 ∨ N1 = 58) := of_decide_eq_false hb
                    have hpb := part_bad e (ts := all.drop k1) (by rw [HK.out.2]; exact fun h => hb2 (.inl h)) (by rw [HK.out.2]; exact fun h => hb2 (.inr (.inl h))) (by rw [HK.out.2]; exact fun h => hb2 (.inr (.inr h)))
                    rw [hpb] at hp
                    cases hp
                    simp [wantT, HK.out.2, H6.out.2, Res.bind]
                  have HC : Hid (∀ W, Grown w6 W → Calls Tryz.prog 107 #[.pointer (some ⟨R, 0, none⟩)] W fun x W' => ∃ m k', x = .returned (mia m) ∧ SG R tA c all e w W' B nt k' a cd A n cc ms) := fun W hg => by
                    refine (qpart_any (H6.out.1.qi.rq.grown hg)).mono ?_
                    intro x W' hx
                    obtain ⟨hm, hx⟩ := hx
                    rw [hp] at hx
                    obtain ⟨v, k', rfl, ⟨m, rfl⟩, hr⟩ := hx
                    exact ⟨m, k', rfl, HSG.out W W' k' a cd hg hm hr⟩
                  clear hp
                  have e30 := HG9.out.cellv d3
                  go_wp2_with fail
                  go_region_law (first | (go_simp; go_at_call 107; go_must (refine (HC.out _ ?_).mono ?_; (repeat (first | exact HG9.out | refine Grown.drew ?_ | refine Grown.drewN ?_ _)); rintro x w7 ⟨m7, k7, rfl, hs7⟩; have HS7 := hidm hs7; have e7 := hs7.cell.1; have e8 := hs7.cell.2; clear hs7)) | (refine step_G rfl (.tmp 84) (.tmp 87) rfl (B + 1) _ n ms rfl (World.ownsRow.alloc HS7.out.row _) w7.heap.size 1 m7 rfl (World.alloc_heap_new _ _) hn1 (by have := HS7.out.ib.lt; simp; omega) ?_; intro A8 c8 w8 hO8 hg8 hb8; have hmo := HS7.out.more _ hg8 hO8; have e9 := hmo.1; have f9 := hmo.2.1; have H9 := hidm hmo.2.2; clear hmo hO8 hg8 hb8))
                  all_goals
                    go_wp2
                    go_roundg 0
                    case measure => have := HR.out.2.2.2.2.2; omega
                    case rel => exact ⟨k7, a, cd, A8, n + 1, c8, [], H9.out.qi, H9.out.ib, H9.out.Bgt, fun h => absurd h HS.out.2, fun _ => ⟨HS.out.1, rfl⟩⟩
              · obtain rfl : bb = true := by rw [HNB.out]; have : N1 = 58 := by simpa using hk3
                                             simp [this]
                have HSW := hidm (HS52.out rfl); clear HS52
                clear hk1 hk2 hk3 hN1 hN2
                obtain ⟨rr0, rr1, -, -, -⟩ := (H6.out.1.qi.rq.grown HG9.out).cells
                go_wp2_with fail
                refine (wrong_any (H6.out.1.qi.rq.grown HG9.out) k1 52 rfl).mono ?_
                rintro x wA ⟨rfl, hm, hr⟩
                rw [nF_zero, nF_zero] at hr
                have HA : Hid (QI R tA c all e w wA k1 (atOf e (all.drop k1)) 52 noI) := (H6.out.1.qi.grown HG9.out.below).next hm hr
                clear hm hr rr0 rr1
                obtain ⟨c0, c1, c2, c3, c4, c5, c6, c7⟩ := HA.out.ib.cells
                obtain ⟨f0, f1, f2, f3, f4, f5, f6, f7⟩ := HA.out.ib.frozen
                go_wp2
                obtain ⟨m1, m2, m3⟩ := HA.out.tell noI
                refine ret_it rfl rfl m1 ?_
                unfold OutQ
                rw [HSW.out]
                exact ⟨m2, _, k1, rfl, ⟨noI, rfl⟩, m3⟩
            · obtain rfl : bb = true := by rw [HNB.out]; have : N1 = 36 := by simpa using hk2
                                           simp [this]
              have HSW := hidm (HS52.out rfl); clear HS52
              clear hk1 hk2 hN1
              obtain ⟨rr0, rr1, -, -, -⟩ := (H6.out.1.qi.rq.grown HG9.out).cells
              go_wp2_with fail
              refine (wrong_any (H6.out.1.qi.rq.grown HG9.out) k1 52 rfl).mono ?_
              rintro x wA ⟨rfl, hm, hr⟩
              rw [nF_zero, nF_zero] at hr
              have HA : Hid (QI R tA c all e w wA k1 (atOf e (all.drop k1)) 52 noI) := (H6.out.1.qi.grown HG9.out.below).next hm hr
              clear hm hr rr0 rr1
              obtain ⟨c0, c1, c2, c3, c4, c5, c6, c7⟩ := HA.out.ib.cells
              obtain ⟨f0, f1, f2, f3, f4, f5, f6, f7⟩ := HA.out.ib.frozen
              go_wp2
              obtain ⟨m1, m2, m3⟩ := HA.out.tell noI
              refine ret_it rfl rfl m1 ?_
              unfold OutQ
              rw [HSW.out]
              exact ⟨m2, _, k1, rfl, ⟨noI, rfl⟩, m3⟩
          · obtain rfl : bb = true := by
              rw [HNB.out]
              have : N1 = 1 := HQ.out.1.2 (by simpa using hk1)
              simp [this]
            have HSW := hidm (HS52.out rfl); clear HS52
            obtain ⟨rr0, rr1, -, -, -⟩ := (H6.out.1.qi.rq.grown HG9.out).cells
            go_wp2_with fail
            refine (wrong_any (H6.out.1.qi.rq.grown HG9.out) k1 52 rfl).mono ?_
            rintro x wA ⟨rfl, hm, hr⟩
            rw [nF_zero, nF_zero] at hr
            have HA : Hid (QI R tA c all e w wA k1 (atOf e (all.drop k1)) 52 noI) := (H6.out.1.qi.grown HG9.out.below).next hm hr
            clear hm hr rr0 rr1
            obtain ⟨c0, c1, c2, c3, c4, c5, c6, c7⟩ := HA.out.ib.cells
            obtain ⟨f0, f1, f2, f3, f4, f5, f6, f7⟩ := HA.out.ib.frozen
            go_wp2
            obtain ⟨m1, m2, m3⟩ := HA.out.tell noI
            refine ret_it rfl rfl m1 ?_
            unfold OutQ
            rw [HSW.out]
            exact ⟨m2, _, k1, rfl, ⟨noI, rfl⟩, m3⟩
        · have g1 : decide ((512 : Int) ≤ (n : Int)) = false := by simp; omega
          cases bb
          · cases hp : partT e (all.drop k1) with
            | ok y r =>
              exfalso
              have hb := HB.out
              rw [bit78, HK.out.2] at hb
              have hb2 : ¬ (N1 = 1 ∨ N1 = 36 ∨ N1 = 58) := of_decide_eq_false hb
              have hpb := part_bad e (ts := all.drop k1) (by rw [HK.out.2]; exact fun h => hb2 (.inl h)) (by rw [HK.out.2]; exact fun h => hb2 (.inr (.inl h))) (by rw [HK.out.2]; exact fun h => hb2 (.inr (.inr h)))
              rw [hpb] at hp
              cases hp
            | no a cd =>
              have HS : Hid (S = .no a cd ∧ cd ≠ 0) := by
                refine ⟨?_, nz_part e _ a cd hp⟩
                rw [HR.out.2.2.2.2.1, fin5_end e nt ps _ HB.out]
                have hb := HB.out
                rw [bit78, HK.out.2] at hb
                have hb2 : ¬ (N1 = 1 ∨ N1 = 36 ∨ N1 = 58) := of_decide_eq_false hb
                have hpb := part_bad e (ts := all.drop k1) (by rw [HK.out.2]; exact fun h => hb2 (.inl h)) (by rw [HK.out.2]; exact fun h => hb2 (.inr (.inl h))) (by rw [HK.out.2]; exact fun h => hb2 (.inr (.inr h)))
                rw [hpb] at hp
                cases hp
                simp [wantT, HK.out.2, H6.out.2, Res.bind]
              have HC : Hid (∀ W, Grown w6 W → Calls Tryz.prog 107 #[.pointer (some ⟨R, 0, none⟩)] W fun x W' => ∃ m k', x = .returned (mia m) ∧ SG R tA c all e w W' B nt k' a cd A n cc ms) := fun W hg => by
                refine (qpart_any (H6.out.1.qi.rq.grown hg)).mono ?_
                intro x W' hx
                obtain ⟨hm, hx⟩ := hx
                rw [hp] at hx
                obtain ⟨v, k', rfl, ⟨m, rfl⟩, hr⟩ := hx
                exact ⟨m, k', rfl, HSG.out W W' k' a cd hg hm hr⟩
              clear hp
              go_wp2_with fail
              go_region_law (first | (go_simp; go_at_call 107; go_must (refine (HC.out _ ?_).mono ?_; (repeat (first | exact Grown.refl _ | refine Grown.drew ?_ | refine Grown.drewN ?_ _)); rintro x w7 ⟨m7, k7, rfl, hs7⟩; have HS7 := hidm hs7; have e7 := hs7.cell.1; have e8 := hs7.cell.2; clear hs7)) | (refine step_G rfl (.tmp 84) (.tmp 87) rfl (B + 1) _ n ms rfl (World.ownsRow.alloc HS7.out.row _) w7.heap.size 1 m7 rfl (World.alloc_heap_new _ _) hn1 (by have := HS7.out.ib.lt; simp; omega) ?_; intro A8 c8 w8 hO8 hg8 hb8; have hmo := HS7.out.more _ hg8 hO8; have e9 := hmo.1; have f9 := hmo.2.1; have H9 := hidm hmo.2.2; clear hmo hO8 hg8 hb8))
              all_goals
                go_wp2
                go_roundg 0
                case measure => have := HR.out.2.2.2.2.2; omega
                case rel => exact ⟨k7, a, cd, A8, n + 1, c8, [], H9.out.qi, H9.out.ib, H9.out.Bgt, fun h => absurd h HS.out.2, fun _ => ⟨HS.out.1, rfl⟩⟩
          · cases hp : partT e (all.drop k1) with
            | no a cd =>
              have HS : Hid (S = .no a cd ∧ cd ≠ 0) := by
                refine ⟨?_, nz_part e _ a cd hp⟩
                rw [HR.out.2.2.2.2.1, show 512 - n = (511 - n) + 1 by omega, fin5_step e nt ps _ HB.out, hp]
                rfl
              have HC : Hid (∀ W, Grown w6 W → Calls Tryz.prog 107 #[.pointer (some ⟨R, 0, none⟩)] W fun x W' => ∃ m k', x = .returned (mia m) ∧ SG R tA c all e w W' B nt k' a cd A n cc ms) := fun W hg => by
                refine (qpart_any (H6.out.1.qi.rq.grown hg)).mono ?_
                intro x W' hx
                obtain ⟨hm, hx⟩ := hx
                rw [hp] at hx
                obtain ⟨v, k', rfl, ⟨m, rfl⟩, hr⟩ := hx
                exact ⟨m, k', rfl, HSG.out W W' k' a cd hg hm hr⟩
              clear hp
              go_wp2_with fail
              go_region_law (first | (go_simp; go_at_call 107; go_must (refine (HC.out _ ?_).mono ?_; (repeat (first | exact Grown.refl _ | refine Grown.drew ?_ | refine Grown.drewN ?_ _)); rintro x w7 ⟨m7, k7, rfl, hs7⟩; have HS7 := hidm hs7; have e7 := hs7.cell.1; have e8 := hs7.cell.2; clear hs7)) | (refine step_G rfl (.tmp 84) (.tmp 87) rfl (B + 1) _ n ms rfl (World.ownsRow.alloc HS7.out.row _) w7.heap.size 1 m7 rfl (World.alloc_heap_new _ _) hn1 (by have := HS7.out.ib.lt; simp; omega) ?_; intro A8 c8 w8 hO8 hg8 hb8; have hmo := HS7.out.more _ hg8 hO8; have e9 := hmo.1; have f9 := hmo.2.1; have H9 := hidm hmo.2.2; clear hmo hO8 hg8 hb8))
              all_goals
                go_wp2
                go_roundg 0
                case measure => have := HR.out.2.2.2.2.2; omega
                case rel => exact ⟨k7, a, cd, A8, n + 1, c8, [], H9.out.qi, H9.out.ib, H9.out.Bgt, fun h => absurd h HS.out.2, fun _ => ⟨HS.out.1, rfl⟩⟩
            | ok y r =>
              have HS : Hid (S = fin5 e nt (ps ++ [y]) (rowP e (511 - n) r)) := by
                show _ = _
                rw [HR.out.2.2.2.2.1, show 512 - n = (511 - n) + 1 by omega, fin5_step e nt ps _ HB.out, hp]
                rfl
              have HC : Hid (∀ W, Grown w6 W → Calls Tryz.prog 107 #[.pointer (some ⟨R, 0, none⟩)] W fun x W' => ∃ m k', x = .returned (mia m) ∧ SG R tA c all e w W' B nt k' 0 0 A n cc ms ∧ all.drop k' = r ∧ All2 (DR 0 W' (B + 1) (Value.slice A n cc).ownBlock) ms ps ∧ DR 0 W' (B + 1) (Value.slice A n cc).ownBlock m y) := fun W hg => by
                refine (qpart_any (H6.out.1.qi.rq.grown hg)).mono ?_
                intro x W' hx
                obtain ⟨hm, hx⟩ := hx
                rw [hp] at hx
                obtain ⟨v, k', rfl, ⟨m, rfl, hD⟩, hdr', hr⟩ := hx
                exact ⟨m, k', rfl, HSG.out W W' k' 0 0 hg hm hr, hdr', HR.out.2.1.mono fun _ _ q => q, hD⟩
              clear hp
              go_wp2_with fail
              go_region_law (first | (go_simp; go_at_call 107; go_must (refine (HC.out _ ?_).mono ?_; (repeat (first | exact Grown.refl _ | refine Grown.drew ?_ | refine Grown.drewN ?_ _)); rintro x w7 ⟨m7, k7, rfl, hs7, hr7, hA7, hD7⟩; have HS7 := hidm hs7; have HA7 := hidm (And.intro hr7 (And.intro hA7 hD7)); have e7 := hs7.cell.1; have e8 := hs7.cell.2; clear hs7 hr7 hA7 hD7)) | (refine step_G rfl (.tmp 84) (.tmp 87) rfl (B + 1) _ n ms rfl (World.ownsRow.alloc HS7.out.row _) w7.heap.size 1 m7 rfl (World.alloc_heap_new _ _) hn1 (by have := HS7.out.ib.lt; simp; omega) ?_; intro A8 c8 w8 hO8 hg8 hb8; have hmo := HS7.out.more _ hg8 hO8; have e9 := hmo.1; have f9 := hmo.2.1; have H9 := hidm hmo.2.2; have HI8 := hidm (own_moreA _ hg8 hO8 hb8 HA7.out.2.1 HA7.out.2.2 HR.out.2.2.1); clear hmo hO8 hg8 hb8))
              all_goals
                go_wp2
                go_roundg (2 * (513 - (n + 1)) + 1)
                case measure => have := HR.out.2.2.2.2.2; omega
                case rel =>
                  refine ⟨k7, 0, 0, A8, n + 1, c8, ps ++ [y], H9.out.qi, H9.out.ib, H9.out.Bgt, fun _ => ⟨rfl, HI8.out.step (fun k _ h2 => heap_set_other _ (by omega) _ _), by rw [List.length_append, HR.out.2.2.2.1]; rfl, by omega, ?_, rfl⟩, fun h => absurd rfl h⟩
                  rw [HS.out, HA7.out.1, show 512 - (n + 1) = 511 - n by omega]
    · obtain ⟨hS, hf⟩ := HP.out.bad hfc
      have HS : Hid (S = .no fa fc) := hS
      have e0 : (fc == 0) = false := by simpa using hfc
      clear hS hf hfc
      go_wp2_with fail
      refine (fine_any HP.out.qi.rq).mono ?_
      rintro x w5 ⟨rfl, rfl⟩
      rw [e0]
      obtain ⟨c0, c1, c2, c3, c4, c5, c6, c7⟩ := HP.out.qi.ib.cells
      obtain ⟨f0, f1, f2, f3, f4, f5, f6, f7⟩ := HP.out.qi.ib.frozen
      obtain ⟨d0, d1, d2, d3, d4, d5, d6, d7⟩ := HP.out.ib.cells
      go_wp2
      obtain ⟨m1, m2, m3⟩ := HP.out.qi.tell (seI nt A n cc)
      refine ret_it rfl rfl m1 ?_
      unfold OutQ
      rw [HS.out]
      exact ⟨m2, _, k1, rfl, ⟨_, rfl⟩, m3⟩
theorem qitem_any {R : Nat} {tA : Option Addr} {c : Nat} {all : List Tok} {e : Int} : ItC R tA c all e := fun w k h => by
  obtain ⟨N, hN⟩ : ∃ N, nxt (all.drop k) = N := ⟨_, rfl⟩
  by_cases h1 : N = 1
  · obtain ⟨t, r, hd, hw⟩ := drop_cons_of_nxt hN (by omega)
    exact qitem_unit h hd (by omega)
  by_cases h36 : N = 36
  · obtain ⟨t, r, hd, hw⟩ := drop_cons_of_nxt hN (by omega)
    exact qitem_name h hd (.inl (by omega))
  by_cases h58 : N = 58
  · obtain ⟨t, r, hd, hw⟩ := drop_cons_of_nxt hN (by omega)
    exact qitem_name h hd (.inr (by omega))
  by_cases h18 : N = 18
  · obtain ⟨t, r, hd, hw⟩ := drop_cons_of_nxt hN (by omega)
    exact qitem_set h hd (by omega)
  exact qitem_else h (by rw [hN]; exact h1) (by rw [hN]; exact h36) (by rw [hN]; exact h58) (by rw [hN]; exact h18)
end Go.Proofs
