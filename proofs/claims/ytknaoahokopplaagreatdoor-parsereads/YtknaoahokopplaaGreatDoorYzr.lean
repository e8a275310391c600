/-
  The document's reader: a line that is a rule, whole.
-/
import Derived.Test.YtknaoahokopplaaGreatDoorMhcr
namespace Go.Proofs
open Go.RowKit Go.Shelf

set_option maxRecDepth 100000
attribute [local go_sem] Oper.semAt_some
set_option maxHeartbeats 16000000 in
theorem qline_rule {R : Nat} {tA : Option Addr} {c : Nat} {all : List Tok} {e : Int} {w : World} {k : Nat} (h : RQ R tA c all e w k 0 0) {t : Tok} {r : List Tok} (hd : all.drop k = t :: r) (h116 : which t ≠ 116) (h21 : ¬ (which t = 36 ∧ nxt r = 21)) :
    Calls Tryz.prog 30 #[.pointer (some ⟨R, 0, none⟩)] w (OutQ R tA c all e w (VL 3 w.heap.size) ShL (lineT e (all.drop k))) := by
  obtain ⟨hlt, hdr, hgu, g, rfl, hgR, hcell⟩ := h.tok hd
  have hlen := h.len
  obtain ⟨S, hS⟩ : ∃ S, lineT e (all.drop k) = S := ⟨_, rfl⟩
  rw [hS]
  obtain ⟨r0, r1, -, -, -⟩ := h.cells
  have t1 := (hcell w (fun _ _ q => q)).2.1
  have r0' := fun o => cell_up r0 o
  have r1' := fun o => cell_up r1 o
  have t1' := fun o => cell_up t1 o
  have r0'' := fun o o2 => cell_up (cell_up r0 o) o2
  have r1'' := fun o o2 => cell_up (cell_up r1 o) o2
  have t1'' := fun o o2 => cell_up (cell_up t1 o) o2
  obtain ⟨N, hN⟩ : ∃ N, nxt (all.drop k) = N := ⟨_, rfl⟩
  have hwt : which t = N := by rw [← hN, hd]; rfl
  have e1 : (N == 116) = false := by rw [← hwt]; simpa using h116
  obtain ⟨bg, hbg⟩ : ∃ bg, (kd (all.drop k) == 10 + ((5 : Nat) : Int)) = bg := ⟨_, rfl⟩
  have hpt := pass_tkk h 5 (by omega)
  have H : Hid (LQ R (some ⟨g, 0, none⟩) c all e w ((w.alloc (.cells (ml1 noL).toArray 44)).alloc (.cells (ml1 (rL t.a false false noS noS noS noS 0)).toArray 44)).drew k 0 0 (w.heap.size + 1) (rL t.a false false noS noS noS noS 0)) := LQ.start h _
  have HN : Hid (nxt (all.drop k) = N ∧ S = ((sidesT e (all.drop (tkk (kd (all.drop k)) 5 k))).bind fun x r1 => rlA e t.a bg x r1) ∧ (kd (all.drop k) == 10 + ((5 : Nat) : Int)) = bg ∧ (N = 36 → nxt r ≠ 21) ∧ all.drop (k + 1) = r) := ⟨hN, by
    rw [← hS, hd, line_rule e h116 h21, ← hd, show (15 : Int) = 10 + ((5 : Nat) : Int) from rfl, hpt, hbg], hbg, fun h36 h => h21 ⟨by omega, h⟩, hdr⟩
  generalize t.a = ta at H HN t1 t1' t1'' ⊢
  clear h hd h116 h21 hdr hgu hcell hN hwt hbg hpt hS
  go_enter Tryz.func30, Tryz.ntmps30
  go_wp2_with fail
  go_region
  all_goals go_wp2_with fail
  clear r0 r1 t1 r0' r1' t1' r0'' r1'' t1''
  refine (qnames_any H.out.rq 116 (by decide) _ rfl HN.out.1).mono ?_
  rintro x w1 ⟨rfl, hg⟩
  have H1 : Hid (LQ R (some ⟨g, 0, none⟩) c all e w w1 k 0 0 (w.heap.size + 1) (rL ta false false noS noS noS noS 0)) := H.out.grown hg.below
  clear hg H
  rw [show ((UInt8.toNat 116 : Nat) : Int) = 116 from rfl, e1]
  clear e1
  go_upto_region 7 with fail
  go_cut [59] (fun s59 wx => s59 = .bool false ∧ Hid (LQ R (some ⟨g, 0, none⟩) c all e w wx k 0 0 (w.heap.size + 1) (rL ta false false noS noS noS noS 0)))
  case first =>
    have HC : Hid (∀ q os, Calls Tryz.prog 55 #[.pointer (some ⟨R, 0, none⟩), .string ⟨#[36]⟩] (Go.Sort.grow (w1.drewN q) os) fun x w' => x = .returned (.bool (N == 36)) ∧ Grown (Go.Sort.grow (w1.drewN q) os) w') := fun q os => by
      refine (qnames_any (H1.out.rq.grown ((Grown.refl w1).quiet q os)) 36 (by decide) _ rfl HN.out.1).mono ?_
      rintro x w' ⟨rfl, hg⟩
      exact ⟨rfl, hg⟩
    have HD : Hid (∀ q os, Calls Tryz.prog 57 #[.string ⟨#[61]⟩] (Go.Sort.grow (w1.drewN q) os) fun x w' => x = .returned (.int .i64 21) ∧ Grown (Go.Sort.grow (w1.drewN q) os) w') := fun q os => by
      refine (sign_any 11 (by omega) _ rfl _).mono ?_
      rintro x w' ⟨rfl, rfl⟩
      exact ⟨rfl, Grown.refl _⟩
    have hR1 := H1.out.rq.cells
    have d0 := fun q os => ((Grown.refl w1).quiet q os).cellv hR1.1
    have d1 := fun q os => ((Grown.refl w1).quiet q os).cellv hR1.2.1
    clear hR1
    cases h36 : (N == 36)
    · rw [h36] at HC
      go_wp2_with fail
      refine wp_region_quiet_grown mixed (by kernel_rfl) ?_
      repeat (go_big_quiet_step (first | (go_at_call 55; exact grown_of (HC.out _ _)) | (go_at_call 57; exact grown_of (HD.out _ _))))
      refine wpQuiet_nil ?_
      intro _ hw'
      obtain ⟨⟨nq, osq⟩, hw''⟩ := hw'
      subst hw''
      have H2 : Hid (LQ R (some ⟨g, 0, none⟩) c all e w (Go.Sort.grow (w1.drewN nq) osq) k 0 0 (w.heap.size + 1) (rL ta false false noS noS noS noS 0)) := H1.out.grown ((Grown.refl w1).quiet nq osq).below
      go_wp2_with fail
      go_meet
      exact ⟨rfl, H2⟩
    · rw [h36] at HC
      by_cases hlt2 : k + 1 < all.length
      · have d2 : decide ((k : Int) + 1 < (all.length : Int)) = true := by simp; omega
        obtain ⟨t2, hget⟩ : ∃ t2, all[k + 1]? = some t2 := ⟨all[k + 1], List.getElem?_eq_getElem hlt2⟩
        obtain ⟨g2, hg2, hr2, -⟩ := H1.out.rq.rt.resolve_left (fun e0 => by rw [e0] at hlt; simp at hlt)
        obtain rfl : g = g2 := by cases hg2; rfl
        have hc := (hr2 (k + 1) t2 hget).1
        have d4 := fun q os => ((Grown.refl w1).quiet q os).cellv hc
        have e21 : (t2.k == 21) = false := by
          have hdk : all.drop (k + 1) = t2 :: all.drop (k + 2) := by
            rw [List.drop_eq_getElem_cons hlt2]
            rw [List.getElem?_eq_getElem hlt2] at hget
            rw [Option.some.inj hget]
          have q := (H1.out.rq.nk (k + 1) rfl rfl).2.2 11 (by omega)
          have hn := HN.out.2.2.2.1 (beq_iff_eq.1 h36)
          rw [HN.out.2.2.2.2] at q
          rw [← HN.out.2.2.2.2, hdk] at hn
          have hkd : kd r = t2.k := by rw [← HN.out.2.2.2.2, hdk]; rfl
          rw [hkd] at q
          rw [← HN.out.2.2.2.2, hdk] at q
          simpa using fun e0 => hn (by have := q.2 (by omega); omega)
        clear hr2 hget hc hg2
        go_wp2_with fail
        refine wp_region_quiet_grown mixed (by kernel_rfl) ?_
        repeat (go_big_quiet_step (first | (go_at_call 55; exact grown_of (HC.out _ _)) | (go_at_call 57; exact grown_of (HD.out _ _))))
        refine wpQuiet_nil ?_
        intro _ hw'
        obtain ⟨⟨nq, osq⟩, hw''⟩ := hw'
        subst hw''
        have H2 : Hid (LQ R (some ⟨g, 0, none⟩) c all e w (Go.Sort.grow (w1.drewN nq) osq) k 0 0 (w.heap.size + 1) (rL ta false false noS noS noS noS 0)) := H1.out.grown ((Grown.refl w1).quiet nq osq).below
        go_wp2_with fail
        go_meet
        exact ⟨rfl, H2⟩
      · have d2 : decide ((k : Int) + 1 < (all.length : Int)) = false := by simp; omega
        go_wp2_with fail
        refine wp_region_quiet_grown mixed (by kernel_rfl) ?_
        repeat (go_big_quiet_step (first | (go_at_call 55; exact grown_of (HC.out _ _)) | (go_at_call 57; exact grown_of (HD.out _ _))))
        refine wpQuiet_nil ?_
        intro _ hw'
        obtain ⟨⟨nq, osq⟩, hw''⟩ := hw'
        subst hw''
        have H2 : Hid (LQ R (some ⟨g, 0, none⟩) c all e w (Go.Sort.grow (w1.drewN nq) osq) k 0 0 (w.heap.size + 1) (rL ta false false noS noS noS noS 0)) := H1.out.grown ((Grown.refl w1).quiet nq osq).below
        go_wp2_with fail
        go_meet
        exact ⟨rfl, H2⟩
  case rest =>
    obtain ⟨rfl, H2⟩ := hcut
    clear H1
    have hK : kd (all.drop k) = kd (all.drop k) := rfl
    clear hK
    go_wp2_with fail
    refine (took_any H2.out.rq 5 (by omega) _ rfl rfl).mono ?_
    rintro x w2 ⟨rfl, hm, hr⟩
    rw [HN.out.2.2.1]
    have H3 : Hid (LQ R (some ⟨g, 0, none⟩) c all e w w2 (tkk (kd (all.drop k)) 5 k) 0 0 (w.heap.size + 1) (rL ta false false noS noS noS noS 0)) := H2.out.next hm hr
    clear hm hr H2
    obtain ⟨c0, c1, c2, c3, c4, c5, c6, c7, c8, c9⟩ := H3.out.own.cells
    obtain ⟨f0, f1, f2, f3, f4, f5, f6, f7, f8, f9⟩ := H3.out.own.frozen
    have H4 : Hid (LQ R (some ⟨g, 0, none⟩) c all e w (w2.setCell ⟨w.heap.size + 1, 3, none⟩ (.bool bg)) (tkk (kd (all.drop k)) 5 k) 0 0 (w.heap.size + 1) (rL ta bg false noS noS noS noS 0)) := H3.out.put 3 _ rfl
    have HS4 : Hid (S = ((sidesT e (all.drop (tkk (kd (all.drop k)) 5 k))).bind fun x r1 => rlA e ta bg x r1)) := HN.out.2.1
    go_upto_region 16 with fail
    generalize w2.setCell ⟨w.heap.size + 1, 3, none⟩ (.bool bg) = W4 at H4 ⊢
    generalize tkk (kd (all.drop k)) 5 k = k4 at H4 HS4
    clear c0 c1 c2 c3 c4 c5 c6 c7 c8 c9 f0 f1 f2 f3 f4 f5 f6 f7 f8 f9 H3 HN
    go_cut [] (fun wx => Hid (S1 R (some ⟨g, 0, none⟩) c all e w S ta bg wx))
    case first =>
      go_wp2_with fail
      refine (qrow_any qitem_any H4.out.rq).mono ?_
      intro xx wR hx
      obtain ⟨hm, hx⟩ := hx
      have HMV := hidm hm
      have hzR := H4.out.own.lt
      cases hp : sidesT e (all.drop k4) with
      | no aR cR =>
        rw [hp] at hx
        obtain ⟨v, kR, rfl, ⟨A0, n0, c0', hv⟩, hr⟩ := hx
        obtain ⟨sR, hsR⟩ : ∃ sR : SL, v = sR.v := ⟨⟨A0, n0, c0'⟩, hv⟩
        subst hsR
        have HR : Hid (LQ R (some ⟨g, 0, none⟩) c all e w wR kR aR cR (w.heap.size + 1) (rL ta bg false noS noS noS noS 0) ∧ cR ≠ 0 ∧ S = .no aR cR) := ⟨H4.out.next hm hr, nz_sides e _ aR cR hp, by rw [HS4.out, hp]; rfl⟩
        clear hm hr hp hzR hv
        obtain ⟨c0, c1, c2, c3, c4, c5, c6, c7, c8, c9⟩ := HR.out.1.own.cells
        obtain ⟨f0, f1, f2, f3, f4, f5, f6, f7, f8, f9⟩ := HR.out.1.own.frozen
        have HR2 : Hid (LQ R (some ⟨g, 0, none⟩) c all e w (wR.setCell ⟨w.heap.size + 1, 6, none⟩ (.slice sR.A sR.n sR.c)) kR aR cR (w.heap.size + 1) ((fun s => rL ta bg false noS s noS noS 0) sR)) := LQ.put (m' := (fun s => rL ta bg false noS s noS noS 0) sR) HR.out.1 6 (.slice sR.A sR.n sR.c) rfl
        go_wp2_with fail
        go_meet
        exact .inl ⟨_, _, _, _, HR2.out, HR.out.2⟩
      | ok xR rR =>
        rw [hp] at hx
        obtain ⟨v, kR, rfl, hV, hdr, hr⟩ := hx
        obtain ⟨sR, hsR, hrowR⟩ := hV.rows (b' := w.heap.size + 1 + 1) (by omega)
        subst hsR
        have HR : Hid (LQ R (some ⟨g, 0, none⟩) c all e w wR kR 0 0 (w.heap.size + 1) (rL ta bg false noS noS noS noS 0) ∧ RowsS 3 wR (w.heap.size + 1 + 1) none sR xR ∧ S = rlA e ta bg xR (all.drop kR)) := ⟨H4.out.next hm hr, hrowR, by rw [HS4.out, hp, hdr]; rfl⟩
        clear hm hr hp hzR hdr hV hrowR
        obtain ⟨c0, c1, c2, c3, c4, c5, c6, c7, c8, c9⟩ := HR.out.1.own.cells
        obtain ⟨f0, f1, f2, f3, f4, f5, f6, f7, f8, f9⟩ := HR.out.1.own.frozen
        have HR2 : Hid (LQ R (some ⟨g, 0, none⟩) c all e w (wR.setCell ⟨w.heap.size + 1, 6, none⟩ (.slice sR.A sR.n sR.c)) kR 0 0 (w.heap.size + 1) ((fun s => rL ta bg false noS s noS noS 0) sR) ∧ RowsS 3 (wR.setCell ⟨w.heap.size + 1, 6, none⟩ (.slice sR.A sR.n sR.c)) (w.heap.size + 1 + 1) none sR xR) := ⟨LQ.put (m' := (fun s => rL ta bg false noS s noS noS 0) sR) HR.out.1 6 (.slice sR.A sR.n sR.c) rfl, HR.out.2.1.put (by omega) _ _⟩
        go_wp2_with fail
        go_meet
        exact .inr ⟨_, _, _, HR2.out.1, HR2.out.2, HR.out.2.2⟩
    case rest =>
      clear H4 HS4
      have HW := hcut
      clear hcut
      go_upto_region 17 with fail
      go_cut [102] (fun s102 wx => ∃ b, s102 = .bool b ∧ Hid (S2 R (some ⟨g, 0, none⟩) c all e w S ta bg b wx))
      case first =>
        rcases HW.out with ⟨k1, fa, fc, m, hL, hfc, hS⟩ | ⟨x, k1, s, hL, hrow, hS⟩
        · have HB : Hid (LQ R (some ⟨g, 0, none⟩) c all e w wc k1 fa fc (w.heap.size + 1) m ∧ fc ≠ 0 ∧ S = .no fa fc) := ⟨hL, hfc, hS⟩
          have e0 : (fc == 0) = false := by simpa using hfc
          clear hL hfc hS HW
          obtain ⟨wq, rfl⟩ : ∃ wq, wq = wc := ⟨_, rfl⟩
          go_wp2_with fail
          refine (fine_any HB.out.1.rq).mono ?_
          rintro x w5 ⟨rfl, rfl⟩
          rw [e0]
          go_wp2_with fail
          go_meet
          exact ⟨false, rfl, .inl ⟨rfl, _, _, _, _, HB.out.1, HB.out.2.1, HB.out.2.2⟩⟩
        · have HB : Hid (LQ R (some ⟨g, 0, none⟩) c all e w wc k1 0 0 (w.heap.size + 1) (rL ta bg false noS s noS noS 0) ∧ RowsS 3 wc (w.heap.size + 1 + 1) none s x ∧ S = rlA e ta bg x (all.drop k1)) := ⟨hL, hrow, hS⟩
          clear hL hrow hS HW
          obtain ⟨wq, rfl⟩ : ∃ wq, wq = wc := ⟨_, rfl⟩
          go_wp2_with fail
          refine (fine_any HB.out.1.rq).mono ?_
          rintro y w5 ⟨rfl, rfl⟩
          rw [show ((0 : Int) == 0) = true from rfl]
          go_wp2_with fail
          refine (took_any HB.out.1.rq 2 (by omega) _ rfl rfl).mono ?_
          rintro y w6 ⟨rfl, hm, hr⟩
          have hL6 := HB.out.1.next hm hr
          have hrow6 := HB.out.2.1.after hm (by have := HB.out.1.Rlt; omega)
          have q2 := (HB.out.1.rq.nk k1 rfl rfl).2.2 2 (by omega)
          clear hm hr
          generalize hb : (kd (all.drop k1) == 10 + ((2 : Nat) : Int)) = b at *
          rw [tkk, hb] at hL6
          have HX : Hid (S2 R (some ⟨g, 0, none⟩) c all e w S ta bg b w6) := by
            refine .inr ⟨x, _, s, hL6, hrow6, ?_⟩
            rw [HB.out.2.2]
            cases b with
            | true =>
              have hb' := beq_iff_eq.1 hb
              rw [rlA_brace e ta bg x (by have := q2.2 hb'; omega), if_pos rfl, if_pos rfl, List.tail_drop]
            | false =>
              have hne : nxt (all.drop k1) ≠ 12 := fun h0 => by
                have h1 := q2.1 (by omega)
                rw [h1] at hb
                simp at hb
              rw [rlA_none e ta bg x hne]
              rfl
          clear hb hL6 hrow6 q2
          go_wp2_with fail
          go_meet
          exact ⟨b, rfl, HX⟩
      case rest =>
        obtain ⟨b, rfl, HX⟩ := hcut
        clear HW
        go_upto_if 102 with fail
        go_cut [] (fun wx => Hid (S3 R (some ⟨g, 0, none⟩) c all e w S ta bg wx))
        case first =>
          cases b with
          | true =>
            rcases HX.out with ⟨h0, -⟩ | ⟨x, k1, s, hL, hrow, hS⟩
            · cases h0
            · rw [if_pos rfl] at hS
              have HB : Hid (LQ R (some ⟨g, 0, none⟩) c all e w wc k1 0 0 (w.heap.size + 1) (rL ta bg false noS s noS noS 0) ∧ RowsS 3 wc (w.heap.size + 1 + 1) none s x) := ⟨hL, hrow⟩
              have HS5 : Hid (S = (sidesT e (all.drop k1)).bind fun y r2 => rlB e ta bg (x, y) r2) := hS
              clear hL hrow hS HX
              obtain ⟨wq, rfl⟩ : ∃ wq, wq = wc := ⟨_, rfl⟩
              obtain ⟨c0, c1, c2, c3, c4, c5, c6, c7, c8, c9⟩ := HB.out.1.own.cells
              obtain ⟨f0, f1, f2, f3, f4, f5, f6, f7, f8, f9⟩ := HB.out.1.own.frozen
              have H5 : Hid (LQ R (some ⟨g, 0, none⟩) c all e w (wq.setCell ⟨w.heap.size + 1, 5, none⟩ (.slice s.A s.n s.c)) k1 0 0 (w.heap.size + 1) (rL ta bg false s s noS noS 0)) := HB.out.1.put 5 _ rfl
              have H5r : Hid (RowsS 3 (wq.setCell ⟨w.heap.size + 1, 5, none⟩ (.slice s.A s.n s.c)) (w.heap.size + 1 + 1) none s x) := HB.out.2.put (by omega) _ _
              go_wp2_with fail
              generalize wq.setCell ⟨w.heap.size + 1, 5, none⟩ (.slice s.A s.n s.c) = W5 at H5 H5r ⊢
              clear c0 c1 c2 c3 c4 c5 c6 c7 c8 c9 f0 f1 f2 f3 f4 f5 f6 f7 f8 f9 HB
              refine (qrow_any qitem_any H5.out.rq).mono ?_
              intro xx wR hx
              obtain ⟨hm, hx⟩ := hx
              have HMV := hidm hm
              have hzR := H5.out.own.lt
              cases hp : sidesT e (all.drop k1) with
              | no aR cR =>
                rw [hp] at hx
                obtain ⟨v, kR, rfl, ⟨A0, n0, c0', hv⟩, hr⟩ := hx
                obtain ⟨sR, hsR⟩ : ∃ sR : SL, v = sR.v := ⟨⟨A0, n0, c0'⟩, hv⟩
                subst hsR
                have HR : Hid (LQ R (some ⟨g, 0, none⟩) c all e w wR kR aR cR (w.heap.size + 1) (rL ta bg false s s noS noS 0) ∧ cR ≠ 0 ∧ S = .no aR cR) := ⟨H5.out.next hm hr, nz_sides e _ aR cR hp, by rw [HS5.out, hp]; rfl⟩
                clear hm hr hp hzR hv
                obtain ⟨c0, c1, c2, c3, c4, c5, c6, c7, c8, c9⟩ := HR.out.1.own.cells
                obtain ⟨f0, f1, f2, f3, f4, f5, f6, f7, f8, f9⟩ := HR.out.1.own.frozen
                have HR2 : Hid (LQ R (some ⟨g, 0, none⟩) c all e w (wR.setCell ⟨w.heap.size + 1, 6, none⟩ (.slice sR.A sR.n sR.c)) kR aR cR (w.heap.size + 1) ((fun s2 => rL ta bg false s s2 noS noS 0) sR)) := LQ.put (m' := (fun s2 => rL ta bg false s s2 noS noS 0) sR) HR.out.1 6 (.slice sR.A sR.n sR.c) rfl
                go_wp2_with fail
                go_meet
                exact .inl ⟨_, _, _, _, HR2.out, HR.out.2⟩
              | ok xR rR =>
                rw [hp] at hx
                obtain ⟨v, kR, rfl, hV, hdr, hr⟩ := hx
                obtain ⟨sR, hsR, hrowR⟩ := hV.rows (b' := w.heap.size + 1 + 1) (by omega)
                subst hsR
                have HR : Hid (LQ R (some ⟨g, 0, none⟩) c all e w wR kR 0 0 (w.heap.size + 1) (rL ta bg false s s noS noS 0) ∧ RowsS 3 wR (w.heap.size + 1 + 1) none sR xR ∧ S = rlB e ta bg (x, xR) (all.drop kR)) := ⟨H5.out.next hm hr, hrowR, by rw [HS5.out, hp, hdr]; rfl⟩
                clear hm hr hp hzR hdr hV hrowR
                obtain ⟨c0, c1, c2, c3, c4, c5, c6, c7, c8, c9⟩ := HR.out.1.own.cells
                obtain ⟨f0, f1, f2, f3, f4, f5, f6, f7, f8, f9⟩ := HR.out.1.own.frozen
                have HR2 : Hid (LQ R (some ⟨g, 0, none⟩) c all e w (wR.setCell ⟨w.heap.size + 1, 6, none⟩ (.slice sR.A sR.n sR.c)) kR 0 0 (w.heap.size + 1) ((fun s2 => rL ta bg false s s2 noS noS 0) sR) ∧ RowsS 3 (wR.setCell ⟨w.heap.size + 1, 6, none⟩ (.slice sR.A sR.n sR.c)) (w.heap.size + 1 + 1) none sR xR) := ⟨LQ.put (m' := (fun s2 => rL ta bg false s s2 noS noS 0) sR) HR.out.1 6 (.slice sR.A sR.n sR.c) rfl, HR.out.2.1.put (by omega) _ _⟩
                have HR3 := hidm ((H5r.out.after HMV.out (by have := H5.out.Rlt; omega)).put (B := w.heap.size + 1) (by omega) 6 sR.v)
                go_wp2_with fail
                go_meet
                exact .inr ⟨(x, xR), _, s, sR, HR2.out.1, HR3.out, HR2.out.2, HR.out.2.2⟩
          | false =>
            rcases HX.out with ⟨-, k1, fa, fc, m, hL, hfc, hS⟩ | ⟨x, k1, s, hL, hrow, hS⟩
            · have HB : Hid (LQ R (some ⟨g, 0, none⟩) c all e w wc k1 fa fc (w.heap.size + 1) m ∧ fc ≠ 0 ∧ S = .no fa fc) := ⟨hL, hfc, hS⟩
              have e0 : (fc == 0) = false := by simpa using hfc
              clear hL hfc hS HX
              obtain ⟨wq, rfl⟩ : ∃ wq, wq = wc := ⟨_, rfl⟩
              go_wp2_with fail
              refine (fine_any HB.out.1.rq).mono ?_
              rintro x w5 ⟨rfl, rfl⟩
              rw [e0]
              go_wp2_with fail
              go_meet
              exact .inl ⟨_, _, _, _, HB.out.1, HB.out.2.1, HB.out.2.2⟩
            · have HB : Hid (LQ R (some ⟨g, 0, none⟩) c all e w wc k1 0 0 (w.heap.size + 1) (rL ta bg false noS s noS noS 0) ∧ RowsS 3 wc (w.heap.size + 1 + 1) none s x ∧ S = if bg then .no (atOf e (all.drop k1)) 50 else rlB e ta bg ([], x) (all.drop k1)) := ⟨hL, hrow, hS⟩
              clear hL hrow hS HX
              obtain ⟨wq, rfl⟩ : ∃ wq, wq = wc := ⟨_, rfl⟩
              go_wp2_with fail
              refine (fine_any HB.out.1.rq).mono ?_
              rintro y w5 ⟨rfl, rfl⟩
              rw [show ((0 : Int) == 0) = true from rfl]
              obtain ⟨c0, c1, c2, c3, c4, c5, c6, c7, c8, c9⟩ := HB.out.1.own.cells
              obtain ⟨r0, r1, -, -, -⟩ := HB.out.1.rq.cells
              cases bg with
              | true =>
                go_wp2_with fail
                refine (wrong_any HB.out.1.rq k1 50 rfl).mono ?_
                rintro x w7 ⟨rfl, hm, hr⟩
                rw [nF_zero, nF_zero] at hr
                have H7 : Hid (BadL R (some ⟨g, 0, none⟩) c all e w S (w.heap.size + 1) w7) := ⟨_, _, _, _, HB.out.1.next hm hr, by decide, HB.out.2.2⟩
                clear hm hr
                go_wp2_with fail
                go_meet
                exact .inl H7.out
              | false =>
                go_wp2_with fail
                go_meet
                exact .inr ⟨([], x), _, noS, s, HB.out.1, RowsS.nil _ _ _ _, HB.out.2.1, HB.out.2.2⟩
        case rest =>
          have HW := hcut
          clear hcut HX
          go_upto_region 22 with fail
          go_cut [126] (fun s126 wx => ∃ b, s126 = .bool b ∧ Hid (S4 R (some ⟨g, 0, none⟩) c all e w S ta bg b wx))
          case first =>
            rcases HW.out with ⟨k1, fa, fc, m, hL, hfc, hS⟩ | ⟨ak, k1, s1, s2, hL, hrow1, hrow2, hS⟩
            · have HB : Hid (LQ R (some ⟨g, 0, none⟩) c all e w wc k1 fa fc (w.heap.size + 1) m ∧ fc ≠ 0 ∧ S = .no fa fc) := ⟨hL, hfc, hS⟩
              have e0 : (fc == 0) = false := by simpa using hfc
              clear hL hfc hS HW
              obtain ⟨wq, rfl⟩ : ∃ wq, wq = wc := ⟨_, rfl⟩
              go_wp2_with fail
              refine (fine_any HB.out.1.rq).mono ?_
              rintro x w5 ⟨rfl, rfl⟩
              rw [e0]
              go_wp2_with fail
              go_meet
              exact ⟨false, rfl, .inl ⟨rfl, _, _, _, _, HB.out.1, HB.out.2.1, HB.out.2.2⟩⟩
            · have HB : Hid (LQ R (some ⟨g, 0, none⟩) c all e w wc k1 0 0 (w.heap.size + 1) (rL ta bg false s1 s2 noS noS 0) ∧ RowsS 3 wc (w.heap.size + 1 + 1) none s1 ak.1 ∧ RowsS 3 wc (w.heap.size + 1 + 1) none s2 ak.2 ∧ S = rlB e ta bg ak (all.drop k1)) := ⟨hL, hrow1, hrow2, hS⟩
              clear hL hrow1 hrow2 hS HW
              obtain ⟨wq, rfl⟩ : ∃ wq, wq = wc := ⟨_, rfl⟩
              go_wp2_with fail
              refine (fine_any HB.out.1.rq).mono ?_
              rintro y w5 ⟨rfl, rfl⟩
              rw [show ((0 : Int) == 0) = true from rfl]
              go_wp2_with fail
              refine (took_any HB.out.1.rq 3 (by omega) _ rfl rfl).mono ?_
              rintro y w6 ⟨rfl, hm, hr⟩
              have hL6 := HB.out.1.next hm hr
              have hrow6 := HB.out.2.1.after hm (by have := HB.out.1.Rlt; omega)
              have hrow7 := HB.out.2.2.1.after hm (by have := HB.out.1.Rlt; omega)
              have q2 := (HB.out.1.rq.nk k1 rfl rfl).2.2 3 (by omega)
              clear hm hr
              generalize hb : (kd (all.drop k1) == 10 + ((3 : Nat) : Int)) = b at *
              rw [tkk, hb] at hL6
              have HX : Hid (S4 R (some ⟨g, 0, none⟩) c all e w S ta bg b w6) := by
                refine .inr ⟨ak, _, s1, s2, hL6, hrow6, hrow7, ?_⟩
                rw [HB.out.2.2.2]
                cases b with
                | true =>
                  have hb' := beq_iff_eq.1 hb
                  rw [rlB_brace e ta bg ak (by have := q2.2 hb'; omega), if_pos rfl, if_pos rfl, List.tail_drop]
                | false =>
                  have hne : nxt (all.drop k1) ≠ 13 := fun h0 => by
                    have h1 := q2.1 (by omega)
                    rw [h1] at hb
                    simp at hb
                  rw [rlB_none e ta bg ak hne]
                  rfl
              clear hb hL6 hrow6 hrow7 q2
              go_wp2_with fail
              go_meet
              exact ⟨b, rfl, HX⟩
          case rest =>
            obtain ⟨b, rfl, HX⟩ := hcut
            clear HW
            go_upto_if 126 with fail
            go_cut [] (fun wx => Hid (S5 R (some ⟨g, 0, none⟩) c all e w S ta bg wx))
            case first =>
              cases b with
              | true =>
                rcases HX.out with ⟨h0, -⟩ | ⟨ak, k1, s1, s2, hL, hrow1, hrow2, hS⟩
                · cases h0
                · rw [if_pos rfl] at hS
                  have HB : Hid (LQ R (some ⟨g, 0, none⟩) c all e w wc k1 0 0 (w.heap.size + 1) (rL ta bg false s1 s2 noS noS 0)) := hL
                  have HBr : Hid (RowsS 3 wc (w.heap.size + 1 + 1) none s1 ak.1 ∧ RowsS 3 wc (w.heap.size + 1 + 1) none s2 ak.2) := ⟨hrow1, hrow2⟩
                  have HS6 : Hid (S = (sidesT e (all.drop k1)).bind fun po r => rlC e ta bg ak (po, (passT 16 r).1) (passT 16 r).2) := hS
                  clear hL hrow1 hrow2 hS HX
                  obtain ⟨wq, rfl⟩ : ∃ wq, wq = wc := ⟨_, rfl⟩
                  go_wp2_with fail
                  refine (qrow_any qitem_any HB.out.rq).mono ?_
                  intro xx wR hx
                  obtain ⟨hm, hx⟩ := hx
                  have HMV := hidm hm
                  have hzR := HB.out.own.lt
                  cases hp : sidesT e (all.drop k1) with
                  | no aR cR =>
                    rw [hp] at hx
                    obtain ⟨v, kR, rfl, ⟨A0, n0, c0', hv⟩, hr⟩ := hx
                    obtain ⟨sR, hsR⟩ : ∃ sR : SL, v = sR.v := ⟨⟨A0, n0, c0'⟩, hv⟩
                    subst hsR
                    have HR : Hid (LQ R (some ⟨g, 0, none⟩) c all e w wR kR aR cR (w.heap.size + 1) (rL ta bg false s1 s2 noS noS 0) ∧ cR ≠ 0 ∧ S = .no aR cR) := ⟨HB.out.next hm hr, nz_sides e _ aR cR hp, by rw [HS6.out, hp]; rfl⟩
                    clear hm hr hp hzR hv
                    obtain ⟨c0, c1, c2, c3, c4, c5, c6, c7, c8, c9⟩ := HR.out.1.own.cells
                    obtain ⟨f0, f1, f2, f3, f4, f5, f6, f7, f8, f9⟩ := HR.out.1.own.frozen
                    have HR2 : Hid (LQ R (some ⟨g, 0, none⟩) c all e w (wR.setCell ⟨w.heap.size + 1, 7, none⟩ (.slice sR.A sR.n sR.c)) kR aR cR (w.heap.size + 1) ((fun s3 => rL ta bg false s1 s2 s3 noS 0) sR)) := LQ.put (m' := (fun s3 => rL ta bg false s1 s2 s3 noS 0) sR) HR.out.1 7 (.slice sR.A sR.n sR.c) rfl
                    have e0 : (cR == 0) = false := by simpa using HR.out.2.1
                    go_wp2_with fail
                    refine (fine_any HR2.out.rq).mono ?_
                    rintro x w5 ⟨rfl, rfl⟩
                    rw [e0]
                    generalize wR.setCell ⟨w.heap.size + 1, 7, none⟩ (.slice sR.A sR.n sR.c) = W7 at HR2 ⊢
                    clear c0 c1 c2 c3 c4 c5 c6 c7 c8 c9 f0 f1 f2 f3 f4 f5 f6 f7 f8 f9
                    obtain ⟨c0, c1, c2, c3, c4, c5, c6, c7, c8, c9⟩ := HR2.out.own.cells
                    obtain ⟨f0, f1, f2, f3, f4, f5, f6, f7, f8, f9⟩ := HR2.out.own.frozen
                    have HR4 : Hid (LQ R (some ⟨g, 0, none⟩) c all e w (W7.setCell ⟨w.heap.size + 1, 4, none⟩ (.bool false)) kR aR cR (w.heap.size + 1) (rL ta bg false s1 s2 sR noS 0)) := HR2.out.put 4 _ rfl
                    go_wp2_with fail
                    go_meet
                    exact .inl ⟨_, _, _, _, HR4.out, HR.out.2⟩
                  | ok xR rR =>
                    rw [hp] at hx
                    obtain ⟨v, kR, rfl, hV, hdr, hr⟩ := hx
                    obtain ⟨sR, hsR, hrowR⟩ := hV.rows (b' := w.heap.size + 1 + 1) (by omega)
                    subst hsR
                    have HR : Hid (LQ R (some ⟨g, 0, none⟩) c all e w wR kR 0 0 (w.heap.size + 1) (rL ta bg false s1 s2 noS noS 0) ∧ RowsS 3 wR (w.heap.size + 1 + 1) none sR xR ∧ S = rlC e ta bg ak (xR, (passT 16 (all.drop kR)).1) (passT 16 (all.drop kR)).2) := ⟨HB.out.next hm hr, hrowR, by rw [HS6.out, hp, hdr]; rfl⟩
                    clear hm hr hp hzR hdr hV hrowR
                    obtain ⟨c0, c1, c2, c3, c4, c5, c6, c7, c8, c9⟩ := HR.out.1.own.cells
                    obtain ⟨f0, f1, f2, f3, f4, f5, f6, f7, f8, f9⟩ := HR.out.1.own.frozen
                    have HR2 : Hid (LQ R (some ⟨g, 0, none⟩) c all e w (wR.setCell ⟨w.heap.size + 1, 7, none⟩ (.slice sR.A sR.n sR.c)) kR 0 0 (w.heap.size + 1) ((fun s3 => rL ta bg false s1 s2 s3 noS 0) sR) ∧ RowsS 3 (wR.setCell ⟨w.heap.size + 1, 7, none⟩ (.slice sR.A sR.n sR.c)) (w.heap.size + 1 + 1) none sR xR) := ⟨LQ.put (m' := (fun s3 => rL ta bg false s1 s2 s3 noS 0) sR) HR.out.1 7 (.slice sR.A sR.n sR.c) rfl, HR.out.2.1.put (by omega) _ _⟩
                    have HR3 : Hid (RowsS 3 (wR.setCell ⟨w.heap.size + 1, 7, none⟩ (.slice sR.A sR.n sR.c)) (w.heap.size + 1 + 1) none s1 ak.1 ∧ RowsS 3 (wR.setCell ⟨w.heap.size + 1, 7, none⟩ (.slice sR.A sR.n sR.c)) (w.heap.size + 1 + 1) none s2 ak.2) := ⟨(HBr.out.1.after HMV.out (by have := HB.out.Rlt; omega)).put (by omega) _ _, (HBr.out.2.after HMV.out (by have := HB.out.Rlt; omega)).put (by omega) _ _⟩
                    have HSR : Hid (S = rlC e ta bg ak (xR, (passT 16 (all.drop kR)).1) (passT 16 (all.drop kR)).2) := HR.out.2.2
                    go_wp2_with fail
                    refine (fine_any HR2.out.1.rq).mono ?_
                    rintro x w5 ⟨rfl, rfl⟩
                    rw [show ((0 : Int) == 0) = true from rfl]
                    generalize wR.setCell ⟨w.heap.size + 1, 7, none⟩ (.slice sR.A sR.n sR.c) = W7 at HR2 HR3 ⊢
                    clear c0 c1 c2 c3 c4 c5 c6 c7 c8 c9 f0 f1 f2 f3 f4 f5 f6 f7 f8 f9
                    go_wp2_with fail
                    refine (took_any HR2.out.1.rq 6 (by omega) _ rfl rfl).mono ?_
                    rintro y w6 ⟨rfl, hm, hr⟩
                    have hpt := pass_tkk HR2.out.1.rq 6 (by omega)
                    have hRB := HR2.out.1.Rlt
                    have HL6 : Hid (LQ R (some ⟨g, 0, none⟩) c all e w w6 (tkk (kd (all.drop kR)) 6 kR) 0 0 (w.heap.size + 1) (rL ta bg false s1 s2 sR noS 0) ∧ RowsS 3 w6 (w.heap.size + 1 + 1) none s1 ak.1 ∧ RowsS 3 w6 (w.heap.size + 1 + 1) none s2 ak.2 ∧ RowsS 3 w6 (w.heap.size + 1 + 1) none sR xR) := ⟨HR2.out.1.next hm hr, HR3.out.1.after hm (by omega), HR3.out.2.after hm (by omega), HR2.out.2.after hm (by omega)⟩
                    clear hm hr hRB
                    generalize hb : (kd (all.drop kR) == 10 + ((6 : Nat) : Int)) = b at *
                    have HSb : Hid (S = rlC e ta bg ak (xR, b) (all.drop (tkk (kd (all.drop kR)) 6 kR))) := by
                      show _ = _
                      rw [HSR.out, show (16 : Int) = 10 + ((6 : Nat) : Int) from rfl, hpt]
                    clear hb hpt HSR HR2 HR3
                    obtain ⟨c0, c1, c2, c3, c4, c5, c6, c7, c8, c9⟩ := HL6.out.1.own.cells
                    obtain ⟨f0, f1, f2, f3, f4, f5, f6, f7, f8, f9⟩ := HL6.out.1.own.frozen
                    have HL7 : Hid (LQ R (some ⟨g, 0, none⟩) c all e w (w6.setCell ⟨w.heap.size + 1, 4, none⟩ (.bool b)) (tkk (kd (all.drop kR)) 6 kR) 0 0 (w.heap.size + 1) (rL ta bg b s1 s2 sR noS 0) ∧ RowsS 3 (w6.setCell ⟨w.heap.size + 1, 4, none⟩ (.bool b)) (w.heap.size + 1 + 1) none s1 ak.1 ∧ RowsS 3 (w6.setCell ⟨w.heap.size + 1, 4, none⟩ (.bool b)) (w.heap.size + 1 + 1) none s2 ak.2 ∧ RowsS 3 (w6.setCell ⟨w.heap.size + 1, 4, none⟩ (.bool b)) (w.heap.size + 1 + 1) none sR xR) := ⟨HL6.out.1.put 4 _ rfl, HL6.out.2.1.put (by omega) _ _, HL6.out.2.2.1.put (by omega) _ _, HL6.out.2.2.2.put (by omega) _ _⟩
                    go_wp2_with fail
                    go_meet
                    exact .inr ⟨ak, (xR, b), _, s1, s2, sR, HL7.out.1, HL7.out.2.1, HL7.out.2.2.1, HL7.out.2.2.2, HSb.out⟩
              | false =>
                rcases HX.out with ⟨-, hbad⟩ | ⟨ak, k1, s1, s2, hL, hrow1, hrow2, hS⟩
                · have HB := hidm hbad
                  clear hbad HX
                  go_wp2_with fail
                  go_meet
                  exact .inl HB.out
                · have HB : Hid (LQ R (some ⟨g, 0, none⟩) c all e w wc k1 0 0 (w.heap.size + 1) (rL ta bg false s1 s2 noS noS 0) ∧ RowsS 3 wc (w.heap.size + 1 + 1) none s1 ak.1 ∧ RowsS 3 wc (w.heap.size + 1 + 1) none s2 ak.2 ∧ S = rlC e ta bg ak ([], false) (all.drop k1)) := ⟨hL, hrow1, hrow2, hS⟩
                  clear hL hrow1 hrow2 hS HX
                  go_wp2_with fail
                  go_meet
                  exact .inr ⟨ak, ([], false), _, s1, s2, noS, HB.out.1, HB.out.2.1, HB.out.2.2.1, RowsS.nil _ _ _ _, HB.out.2.2.2⟩
            case rest =>
              have HW := hcut.out
              clear hcut HX
              apply_assumption
              exact qrule_end HW rfl
end Go.Proofs
