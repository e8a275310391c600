/-
  The document's reader: a row of items (what it tells of one item is a premise).
-/
import Derived.Test.YtknaoahokopplaaGreatDoorMgyr
namespace Go.Proofs
open Go.RowKit Go.Shelf

set_option maxRecDepth 100000
attribute [local go_sem] Oper.semAt_some

/-- what is told of an item -/
def ItC (R : Nat) (tA : Option Addr) (c : Nat) (all : List Tok) (e : Int) : Prop := ∀ (w : World) (k : Nat), RQ R tA c all e w k 0 0 → Calls Tryz.prog 58 #[.pointer (some ⟨R, 0, none⟩)] w (OutQ R tA c all e w (VQ 2 w.heap.size) ShI (sideT e 62 (all.drop k)))
def preR (xs : List It) (s : Res (List It)) : Res (List It) := s.bind fun ys r => .ok (xs ++ ys) r
def rowS (e : Int) (d : Nat) (ts : List Tok) : Res (List It) := rowT e 62 (sideT e 62) d ts
theorem preR_step (e : Int) (xs : List It) (d : Nat) {ts : List Tok} (h : begQ (nxt ts) = true) : preR xs (rowS e (d + 1) ts) = (sideT e 62 ts).bind fun x r => preR (xs ++ [x]) (rowS e d r) := by
  unfold begQ at h
  unfold preR rowS
  rw [rowT, if_pos h, bind_assoc]
  congr 1
  funext x r
  rw [bind_assoc]
  congr 1
  funext ys r2
  simp [Res.bind]
theorem preR_end (e : Int) (xs : List It) (d : Nat) {ts : List Tok} (h : begQ (nxt ts) = false) : preR xs (rowS e d ts) = .ok xs ts := by
  unfold begQ at h
  unfold preR rowS
  cases d with
  | zero => rw [rowT, if_neg (by simp [h])]; simp [Res.bind]
  | succ d => rw [rowT, if_neg (by simp [h])]; simp [Res.bind]
theorem preR_many (e : Int) (xs : List It) {ts : List Tok} (h : begQ (nxt ts) = true) : preR xs (rowS e 0 ts) = .no (atOf e ts) 52 := by
  unfold begQ at h
  unfold preR rowS
  rw [rowT, if_pos h]
  rfl
def ShR (v : Value) : Prop := ∃ A n c, v = .slice A n c
def VQR (b : Nat) (w' : World) (v : Value) (l : List It) : Prop := ∃ A c, v = .slice A l.length c ∧ Rows 2 w' b none A l.length c l
/-- a row on its way -/
structure RP (R : Nat) (tA : Option Addr) (c : Nat) (all : List Tok) (e : Int) (w W : World) (S : Res (List It)) (f : Nat) (k : Nat) (fa fc : Int) (v : Value) : Prop where
  mv : Mv w W R none
  rq : RQ R tA c all e W k fa fc
  Rlt : R < w.heap.size
  glt : ∀ g, tA = some ⟨g, 0, none⟩ → all ≠ [] → g < w.heap.size
  row : ∃ ms A n cc, v = .slice A n cc ∧ ms.length = n ∧ W.ownsRow w.heap.size 58 8 (.slice A n cc) n (fi ms)
  fine : fc = 0 → fa = 0 ∧ ∃ xs A cc, v = .slice A xs.length cc ∧ OwnI 2 W w.heap.size v xs ∧ xs.length ≤ 512 ∧ S = preR xs (rowS e (512 - xs.length) (all.drop k)) ∧ f = 2 * (513 - xs.length) + 1
  bad : fc ≠ 0 → S = .no fa fc ∧ f = 0
theorem OwnI.new0 (w : World) (d : Nat) : OwnI d (w.alloc (.cells #[] 58)) w.heap.size (.slice (some ⟨w.heap.size, 0, none⟩) 0 0) [] :=
  ⟨[], ⟨rfl, .inr ⟨w.heap.size, 0, #[], rfl, Nat.le_refl _, World.alloc_heap_new _ _, Nat.le_refl _, by unfold maxLen; omega, rfl, rfl⟩⟩, trivial⟩
theorem own0 (w : World) : (w.alloc (.cells #[] 58)).ownsRow w.heap.size 58 8 (.slice (some ⟨w.heap.size, 0, none⟩) 0 0) 0 (fi []) :=
  ⟨rfl, .inr ⟨w.heap.size, 0, #[], rfl, Nat.le_refl _, World.alloc_heap_new _ _, Nat.le_refl _, by unfold maxLen; omega, rfl, rfl⟩⟩
theorem RQ.low {R : Nat} {tA : Option Addr} {c : Nat} {all : List Tok} {e : Int} {w w' : World} {k : Nat} {fa fc : Int} (h : RQ R tA c all e w k fa fc) {N : Nat} (hR : R < N) (hg : ∀ g, tA = some ⟨g, 0, none⟩ → all ≠ [] → g < N) (hb : ∀ b, b < N → w'.heap[b]? = w.heap[b]?) : RQ R tA c all e w' k fa fc :=
  ⟨(hb R hR).trans h.blk, by
    rcases h.rt with h0 | ⟨g, e1, r, n⟩
    · exact .inl h0
    · by_cases h0 : all = []
      · exact .inl h0
      · refine .inr ⟨g, e1, fun j x hj => ?_, n⟩
        have hc : ∀ i, w'.cell? ⟨g, i, none⟩ = w.cell? ⟨g, i, none⟩ := fun i => by simp only [World.cell?, hb g (hg g e1 h0)]
        obtain ⟨a0, a1, a2, a3, a4, a5⟩ := r j x hj
        exact ⟨(hc _).trans a0, (hc _).trans a1, (hc _).trans a2, (hc _).trans a3, (hc _).trans a4, (hc _).trans a5⟩, h.kle, h.good, h.len⟩
/-- an item behind a row, whatever it means -/
theorem push_G {ops : Array Oper} {rest : List Oper} {o : Oper} {a : Act} {Q : Exit → Act → World → Prop} {w : World} (hgd : o.guard = none) (s x : Operand)
    (ho : o.op = .call { callee := .builtin .append, args := #[s, x], argTypes := #[42, 42] })
    (b : Nat) (v : Value) (n : Nat) (ms : List MI) (hs : a.eval s = v) (hown : w.ownsRow b 58 8 v n (fi ms)) (hn : ms.length = n) (g c : Nat) (m : MI) (hx : a.eval x = .slice (some ⟨g, 0, none⟩) 1 c)
    (hy : w.heap[g]? = some (.cells (mi1 m).toArray 58 (0, 0))) (hl : n + 1 ≤ 1000000) (hbase : b ≤ w.heap.size)
    (h : ∀ A c' w', w'.ownsRow b 58 8 (.slice A (n + 1) c') (n + 1) (fi (ms ++ [m])) → w.grownBy w' v.ownBlock → wpList Tryz.prog ops Q rest (a.put o.dst (.slice A (n + 1) c')) w') : wpList Tryz.prog ops Q (o :: rest) a w := by
  obtain ⟨i0, hi, hz0, hz1, hz2⟩ := info_parts info50
  refine wpList_append_own w hgd s x 42 ho b 58 i0 _ 8 88 Tryz.underlying42 hi hz0 hz1 hz2 rfl (by decide) v n (fi ms) hs hown ⟨g, 0, none⟩ 1 c (fi [m]) hx rfl ?_ (fi_one _) (by unfold maxLen; omega) (by omega) hbase (fun v' w' k2 k3 _ => ?_)
  · intro j u hj
    have e : (fi [m]) = mi1 m := by simp [fi]
    rw [e] at hj
    rw [add_zero_at']
    simp only [World.cell?, hy]
    simpa using hj
  · have hf : ∃ A c', v' = .slice A (n + 1) c' := by
      rcases k2.2 with ⟨e, h0⟩ | ⟨g, cap, cur, e, _⟩
      · omega
      · exact ⟨_, _, e⟩
    obtain ⟨A, c', rfl⟩ := hf
    refine h A c' w' ?_ k3
    rw [fi_append]
    exact k2
set_option maxHeartbeats 8000000 in
theorem qrow_any {R : Nat} {tA : Option Addr} {c : Nat} {all : List Tok} {e : Int} (hI : ItC R tA c all e) {w : World} {k : Nat} (h : RQ R tA c all e w k 0 0) :
    Calls Tryz.prog 60 #[.pointer (some ⟨R, 0, none⟩)] w (OutQ R tA c all e w (VQR w.heap.size) ShR (sidesT e (all.drop k))) := by
  obtain ⟨S, hS⟩ : ∃ S, sidesT e (all.drop k) = S := ⟨_, rfl⟩
  have hS2 : S = preR [] (rowS e 512 (all.drop k)) := by
    rw [← hS]
    unfold sidesT preR rowS
    cases rowT e 62 (sideT e 62) 512 (all.drop k) <;> rfl
  rw [hS]
  have HI : Hid (ItC R tA c all e) := hI
  have h0 := h.after ((Below.refl _ w).alloc (Nat.le_refl _) (.cells #[] 58))
  have HP : Hid (RP R tA c all e w (w.alloc (.cells #[] 58)) S (2 * 513 + 1) k 0 0 (.slice (some ⟨w.heap.size, 0, none⟩) 0 0)) :=
    ⟨(Mv.refl w R none).alloc _, h0, h.lt, h.glt, ⟨[], _, _, _, rfl, rfl, own0 w⟩, fun _ => ⟨rfl, [], _, _, rfl, OwnI.new0 w 2, by simp, hS2, rfl⟩, fun h => absurd rfl h⟩
  clear hS hS2 h0 h hI
  go_enter Tryz.func60, Tryz.ntmps60
  go_wp2_with fail
  go_loopg [3] (2 * 513 + 1) (fun f v3 wr => Hid (∃ k1 fa fc, RP R tA c all e w wr S f k1 fa fc v3))
  case atStart => exact ⟨_, _, _, HP.out⟩
  case round =>
    clear HP
    obtain ⟨wo, rfl⟩ : ∃ wo, wo = wr := ⟨_, rfl⟩
    obtain ⟨k1, fa, fc, hP⟩ := hrel.out
    clear hrel
    have HP : Hid (RP R tA c all e w wo S gk k1 fa fc u3) := hP
    clear hP
    by_cases hfc : fc = 0
    · subst hfc
      obtain ⟨hfa, xs, A, cc, hv, hO, hn, hS, hf⟩ := HP.out.fine rfl
      subst hfa
      subst hv
      have HF : Hid (OwnI 2 wo w.heap.size (.slice A xs.length cc) xs ∧ S = preR xs (rowS e (512 - xs.length) (all.drop k1)) ∧ gk = 2 * (513 - xs.length) + 1) := ⟨hO, hS, hf⟩
      clear hO hS hf
      go_wp2_with fail
      refine (fine_any HP.out.rq).mono ?_
      rintro x w5 ⟨rfl, rfl⟩
      rw [show ((0 : Int) == 0) = true from rfl]
      obtain ⟨N1, hN1⟩ : ∃ N1, nxt (all.drop k1) = N1 := ⟨_, rfl⟩
      have HN : Hid (nxt (all.drop k1) = N1) := hN1
      clear hN1
      go_wp2_with fail
      refine (qbegins_any HP.out.rq HN.out).mono ?_
      rintro x w6 ⟨rfl, hg⟩
      have H6 : Hid (RQ R tA c all e w6 k1 0 0 ∧ Mv w w6 R none ∧ OwnI 2 w6 w.heap.size (.slice A xs.length cc) xs ∧ R < w.heap.size ∧ ∀ g, tA = some ⟨g, 0, none⟩ → all ≠ [] → g < w.heap.size) := ⟨HP.out.rq.grown hg, HP.out.mv.and (hg.mv R), HF.out.1.step (fun k h1 _ => hg.below.block k h1), HP.out.Rlt, HP.out.glt⟩
      clear hg HP
      generalize hb : begQ N1 = b
      have HB : Hid (begQ (nxt (all.drop k1)) = b) := by rw [HN.out]; exact hb
      clear hb
      cases b
      · go_wp2
        go_ret
        unfold OutQ
        rw [HF.out.2.1, preR_end e xs _ HB.out]
        exact ⟨H6.out.2.1, _, k1, rfl, ⟨A, cc, rfl, H6.out.2.2.1.rows⟩, rfl, H6.out.1⟩
      · obtain ⟨r0, r1, -, -, -⟩ := H6.out.1.cells
        by_cases h512 : xs.length = 512
        · have d1 : decide ((512 : Int) ≤ (xs.length : Int)) = true := by simp; omega
          have HS : Hid (S = .no (atOf e (all.drop k1)) 52) := by
            show _ = _
            rw [HF.out.2.1, h512]
            exact preR_many e xs HB.out
          clear h512
          go_wp2_with fail
          refine (wrong_any H6.out.1 k1 52 rfl).mono ?_
          rintro x w7 ⟨rfl, hm, hr⟩
          rw [nF_zero, nF_zero] at hr
          have H7 : Hid (Mv w w7 R none ∧ RQ R tA c all e w7 k1 (atOf e (all.drop k1)) 52) := ⟨H6.out.2.1.and hm, hr⟩
          clear hm hr
          go_wp2
          go_ret
          unfold OutQ
          rw [HS.out]
          exact ⟨H7.out.1, _, k1, rfl, ⟨_, _, _, rfl⟩, H7.out.2⟩
        · have d1 : decide ((512 : Int) ≤ (xs.length : Int)) = false := by simp; omega
          have HL : Hid (512 - xs.length = (511 - xs.length) + 1) := by
            show _ = _
            omega
          have HS : Hid (S = (sideT e 62 (all.drop k1)).bind fun x r => preR (xs ++ [x]) (rowS e (511 - xs.length) r)) := by
            show _ = _
            rw [HF.out.2.1, HL.out]
            exact preR_step e xs _ HB.out
          clear r0 r1
          go_wp2_with fail
          refine (HI.out _ k1 H6.out.1).mono ?_
          intro x w7 hx
          obtain ⟨hm, hx⟩ := hx
          cases hp : sideT e 62 (all.drop k1) with
          | no a cd =>
            rw [hp] at hx
            obtain ⟨v, k', rfl, ⟨m, rfl⟩, hr⟩ := hx
            have hcd : cd ≠ 0 := nz_side e 62 (.inl rfl) _ a cd hp
            have H7 : Hid (Mv w w7 R none ∧ RQ R tA c all e w7 k' a cd ∧ cd ≠ 0 ∧ S = .no a cd ∧ OwnI 2 w7 w.heap.size (.slice A xs.length cc) xs) := ⟨H6.out.2.1.and hm, hr, hcd, by rw [HS.out, hp]; rfl, H6.out.2.2.1.step (fun k h1 h2 => hm.block k h1 (by have := H6.out.2.2.2.1; omega) (by simp))⟩
            clear hm hr hcd hp
            obtain ⟨ms, hms, ha2⟩ := H7.out.2.2.2.2
            have HM : Hid (w7.ownsRow w.heap.size 58 8 (.slice A xs.length cc) xs.length (fi ms) ∧ ms.length = xs.length) := ⟨by have h0 := hms; rw [ha2.length] at h0; exact h0, ha2.length⟩
            have hz7 := H7.out.1.size
            clear hms ha2
            go_wp2_with (first | (at_builtin; go_must (refine push_G rfl _ _ rfl w.heap.size _ xs.length ms rfl (World.ownsRow.alloc HM.out.1 _) HM.out.2 w7.heap.size 1 m rfl (World.alloc_heap_new _ _) (by omega) (by simp; omega) ?_); intro A8 c8 w8 hO8 hg8) | fail)
            have hlo := HM.out.1.lt
            have hb8 : ∀ b, b < w.heap.size → w8.heap[b]? = w7.heap[b]? := fun b hb => (hg8.block b (by simp; omega) (fun h => by have := (hlo b h.symm).1; omega)).trans (Below.heap_alloc _ _ _ (by omega))
            have HE : Hid (RP R tA c all e w w8 S 0 k' a cd (.slice A8 (xs.length + 1) c8)) :=
              ⟨(H7.out.1.alloc _).trans (Mv.of_grown hg8) (.inr fun g h => (hlo g h).1), H7.out.2.1.low H6.out.2.2.2.1 H6.out.2.2.2.2 hb8, H6.out.2.2.2.1, H6.out.2.2.2.2, ⟨ms ++ [m], _, _, _, rfl, by rw [List.length_append, HM.out.2]; rfl, hO8⟩, fun h => absurd h H7.out.2.2.1, fun _ => ⟨H7.out.2.2.2.1, rfl⟩⟩
            have HK : Hid (gk = 2 * (513 - xs.length) + 1) := HF.out.2.2
            clear hO8 hg8 hlo hb8
            go_roundg 0
            case measure => have := HK.out; omega
            case rel => exact ⟨_, _, _, HE.out⟩
          | ok y r =>
            rw [hp] at hx
            obtain ⟨v, k', rfl, ⟨m, rfl, hD⟩, hdr, hr⟩ := hx
            have H7 : Hid (Mv w w7 R none ∧ RQ R tA c all e w7 k' 0 0 ∧ S = preR (xs ++ [y]) (rowS e (511 - xs.length) (all.drop k')) ∧ OwnI 2 w7 w.heap.size (.slice A xs.length cc) xs ∧ DR 2 w7 w6.heap.size none m y ∧ w.heap.size ≤ w6.heap.size ∧ w6.heap.size ≤ w7.heap.size ∧ ∀ g, (Value.slice A xs.length cc).ownBlock = some g → g < w6.heap.size) :=
              ⟨H6.out.2.1.and hm, hr, by rw [HS.out, hp, hdr]; rfl, H6.out.2.2.1.step (fun k h1 h2 => hm.block k h1 (by have := H6.out.2.2.2.1; omega) (by simp)), hD, H6.out.2.1.size, hm.size, fun g h => (H6.out.2.2.1.lt g h).2⟩
            clear hm hr hp hdr hD
            have hz7 := H7.out.1.size
            go_wp2_with (first | (at_builtin; go_must (refine push_I rfl _ _ 42 rfl Tryz.underlying42 2 w.heap.size _ xs rfl (H7.out.2.2.2.1.step (fun k h1 _ => Below.heap_alloc _ _ _ h1)) w7.heap.size 1 m y rfl (World.alloc_heap_new _ _) (H7.out.2.2.2.2.1.step H7.out.2.2.2.2.2.1 (.inr (.inr fun g h => .inr (H7.out.2.2.2.2.2.2.2 g h))) (fun k h1 _ _ => Below.heap_alloc _ _ _ h1)) (by omega) (by simp; omega) ?_); intro A8 c8 w8 hO8 hg8 hob8) | fail)
            have hlo := H7.out.2.2.2.1.lt
            have hb8 : ∀ b, b < w.heap.size → w8.heap[b]? = w7.heap[b]? := fun b hb => (hg8.block b (by simp; omega) (fun h => by have := (hlo b h.symm).1; omega)).trans (Below.heap_alloc _ _ _ (by omega))
            have HE : Hid (RP R tA c all e w w8 S (2 * (513 - (xs.length + 1)) + 1) k' 0 0 (.slice A8 (xs.length + 1) c8)) := by
              refine ⟨(H7.out.1.alloc _).trans (Mv.of_grown hg8) (.inr fun g h => (hlo g h).1), H7.out.2.1.low H6.out.2.2.2.1 H6.out.2.2.2.2 hb8, H6.out.2.2.2.1, H6.out.2.2.2.2, ?_, fun _ => ⟨rfl, xs ++ [y], A8, c8, by rw [List.length_append]; rfl, hO8, by rw [List.length_append]; simp; omega, ?_, by rw [List.length_append]; rfl⟩, fun h => absurd rfl h⟩
              · obtain ⟨ms8, q1, q2⟩ := hO8
                have q3 := q2.length
                rw [List.length_append] at q3
                refine ⟨ms8, _, _, _, rfl, q3, ?_⟩
                rw [q3] at q1
                exact q1
              · rw [H7.out.2.2.1, List.length_append]
                congr 2; simp
            have HK : Hid (gk = 2 * (513 - xs.length) + 1) := HF.out.2.2
            clear hO8 hg8 hlo hb8 hob8
            go_roundg (2 * (513 - (xs.length + 1)) + 1)
            case measure => have := HK.out; omega
            case rel => exact ⟨_, _, _, HE.out⟩
    · obtain ⟨hS, hf⟩ := HP.out.bad hfc
      obtain ⟨ms, A, n, cc, hv, -⟩ := HP.out.row
      subst hv
      have HS : Hid (S = .no fa fc) := hS
      have e0 : (fc == 0) = false := by simpa using hfc
      clear hS hf hfc
      go_wp2_with fail
      refine (fine_any HP.out.rq).mono ?_
      rintro x w5 ⟨rfl, rfl⟩
      rw [e0]
      go_wp2
      go_ret
      unfold OutQ
      rw [HS.out]
      exact ⟨HP.out.mv, _, k1, rfl, ⟨_, _, _, rfl⟩, HP.out.rq⟩
end Go.Proofs
