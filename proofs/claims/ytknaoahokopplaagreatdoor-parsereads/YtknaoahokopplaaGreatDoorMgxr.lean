/-
  Several texts in one (Yer Yfr).
-/
import Derived.Test.YtknaoahokopplaaGreatDoorYdr
namespace Go.Proofs
open Go.RowKit Go.Shelf

set_option maxRecDepth 100000
attribute [local go_sem] Oper.semAt_some

/-- what a call of the document's reader tells -/
def OutQ {α : Type} (R : Nat) (tA : Option Addr) (c : Nat) (all : List Tok) (e : Int) (w : World) (V : World → Value → α → Prop) (Sh : Value → Prop) (s : Res α) (x : Ending) (w' : World) : Prop :=
  Mv w w' R none ∧ match s with
  | .ok y r => ∃ v k', x = .returned v ∧ V w' v y ∧ all.drop k' = r ∧ RQ R tA c all e w' k' 0 0
  | .no a cd => ∃ v k', x = .returned v ∧ Sh v ∧ RQ R tA c all e w' k' a cd
def ShI (v : Value) : Prop := ∃ m, v = mia m
def VQ (d b : Nat) (w' : World) (v : Value) (i : It) : Prop := ∃ m, v = mia m ∧ DR d w' b none m i
theorem atOf_drop {all : List Tok} {k : Nat} {t : Tok} {r : List Tok} (e : Int) (h : all.drop k = t :: r) : atOf e (all.drop k) = t.a := by rw [h]; rfl
theorem QI.allocs {R : Nat} {tA : Option Addr} {c : Nat} {all : List Tok} {e : Int} {w W : World} {k : Nat} {fa fc : Int} {m : MI} (h : QI R tA c all e w W k fa fc m) (o : Obj) : QI R tA c all e w (W.alloc o) k fa fc m := h.grown ((Below.refl _ W).alloc (Nat.le_refl _) _)
set_option maxHeartbeats 4000000 in
theorem qpart_name {R : Nat} {tA : Option Addr} {c : Nat} {all : List Tok} {e : Int} {w : World} {k : Nat} (h : RQ R tA c all e w k 0 0) {t : Tok} {r : List Tok} (hd : all.drop k = t :: r) (hw : which t = 36 ∨ which t = 58) :
    Calls Tryz.prog 107 #[.pointer (some ⟨R, 0, none⟩)] w (OutQ R tA c all e w (VQ 0 w.heap.size) ShI (partT e (all.drop k))) := by
  obtain ⟨kk, hkk, hp⟩ : ∃ kk : Int, (∀ W, RQ R tA c all e W k 0 0 → Calls Tryz.prog 106 #[.pointer (some ⟨R, 0, none⟩)] W fun x w' => x = .returned (.tuple #[mia (nmI kk (bareN t)), .bool true]) ∧ Mv W w' R none ∧ RQ R tA c all e w' (k + 1) 0 0) ∧ partT e (all.drop k) = .ok (.mk kk 0 (bareN t) [] 0 0 false 0) r := by
    rcases hw with hw | hw
    · refine ⟨2, fun W hW => qname_var hW hd hw, ?_⟩
      rw [hd]
      simp [partT, itemT, restT, hw, begun, Nat.testBit]
    · refine ⟨3, fun W hW => qname_class hW hd hw, ?_⟩
      rw [hd]
      simp [partT, itemT, restT, hw, begun, Nat.testBit]
  have H : Hid (QI R tA c all e w (w.alloc (.cells (mi1 noI).toArray 58)) k 0 0 noI ∧ (∀ W, RQ R tA c all e W k 0 0 → Calls Tryz.prog 106 #[.pointer (some ⟨R, 0, none⟩)] W fun x w' => x = .returned (.tuple #[mia (nmI kk (bareN t)), .bool true]) ∧ Mv W w' R none ∧ RQ R tA c all e w' (k + 1) 0 0) ∧ partT e (all.drop k) = .ok (.mk kk 0 (bareN t) [] 0 0 false 0) r ∧ all.drop (k + 1) = r) := ⟨QI.start h noI, hkk, hp, (h.tok hd).2.1⟩
  generalize bareN t = bn at H ⊢
  clear h hd hw hkk hp
  go_enter Tryz.func107, Tryz.ntmps107
  go_wp2_with fail
  refine (H.out.2.1 _ H.out.1.rq).mono ?_
  rintro x w1 ⟨rfl, hm, hr⟩
  have H1 : Hid (QI R tA c all e w w1 (k + 1) 0 0 noI) := H.out.1.next hm hr
  clear hm hr
  have cc := fun o => (H1.out.allocs o).ib.cells
  have ff := fun o => (H1.out.allocs o).ib.frozen
  have c0 := fun o => (cc o).1
  have c1 := fun o => (cc o).2.1
  have c2 := fun o => (cc o).2.2.1
  have c3 := fun o => (cc o).2.2.2.1
  have c4 := fun o => (cc o).2.2.2.2.1
  have c5 := fun o => (cc o).2.2.2.2.2.1
  have c6 := fun o => (cc o).2.2.2.2.2.2.1
  have c7 := fun o => (cc o).2.2.2.2.2.2.2
  have f0 := fun o => (ff o).1
  have f1 := fun o => (ff o).2.1
  have f2 := fun o => (ff o).2.2.1
  have f3 := fun o => (ff o).2.2.2.1
  have f4 := fun o => (ff o).2.2.2.2.1
  have f5 := fun o => (ff o).2.2.2.2.2.1
  have f6 := fun o => (ff o).2.2.2.2.2.2.1
  have f7 := fun o => (ff o).2.2.2.2.2.2.2
  clear cc ff
  go_wp2
  obtain ⟨k1, k2, k3⟩ := (H1.out.allocs (.cells (mi1 (nmI kk bn)).toArray 58)).tell (nmI kk bn)
  refine ret_it rfl rfl k1 ?_
  unfold OutQ
  rw [H.out.2.2.1]
  exact ⟨k2, _, k + 1, rfl, ⟨nmI kk bn, rfl, ⟨rfl, rfl, rfl, rfl, rfl, rfl, rfl⟩, rfl, rfl, rfl, rfl⟩, H.out.2.2.2, k3⟩
end Go.Proofs
namespace Go.Proofs
open Go.RowKit Go.Shelf

set_option maxRecDepth 100000
attribute [local go_sem] Oper.semAt_some

theorem part_bad (e : Int) {ts : List Tok} (h1 : nxt ts ≠ 1) (h2 : nxt ts ≠ 36) (h3 : nxt ts ≠ 58) : partT e ts = .no (atOf e ts) 50 := by
  cases ts with
  | nil => rfl
  | cons t r =>
    simp only [nxt] at h1 h2 h3
    have hb : Nat.testBit 78 (begun (which t)) = false := by
      unfold begun
      rw [if_neg h1, if_neg h2, if_neg h3]
      repeat' split
      all_goals decide
    simp [partT, itemT, hb, atOf]
theorem part_unit (e : Int) {t : Tok} {r : List Tok} (h : which t = 1) : partT e (t :: r) = if nxt r = 20 then upToT e t r.tail else .ok (.mk 1 t.u ⟨#[]⟩ [] 0 0 false 0) r := by
  simp [partT, itemT, restT, h, begun, Nat.testBit]
def unI (u : Int) : MI := ⟨1, u, ⟨#[]⟩, none, 0, 0, 0, 0, false, 0⟩
def rgI (lo hi : Int) : MI := ⟨6, 0, ⟨#[]⟩, none, 0, 0, lo, hi, false, 0⟩
theorem drop_next {all : List Tok} {k : Nat} {t : Tok} {r : List Tok} (h : all.drop k = t :: r) : all.drop (k + 1) = r ∧ k < all.length := by
  have hlt : k < all.length := by
    rcases Nat.lt_or_ge k all.length with h1 | h1
    · exact h1
    · rw [List.drop_of_length_le h1] at h; cases h
  have hc := List.drop_eq_getElem_cons hlt
  rw [h] at hc
  injection hc with h1 h2
  exact ⟨h2.symm, hlt⟩
set_option maxHeartbeats 8000000 in
theorem qpart_else {R : Nat} {tA : Option Addr} {c : Nat} {all : List Tok} {e : Int} {w : World} {k : Nat} (h : RQ R tA c all e w k 0 0) (h36 : nxt (all.drop k) ≠ 36) (h58 : nxt (all.drop k) ≠ 58) :
    Calls Tryz.prog 107 #[.pointer (some ⟨R, 0, none⟩)] w (OutQ R tA c all e w (VQ 0 w.heap.size) ShI (partT e (all.drop k))) := by
  obtain ⟨N, hN⟩ : ∃ N, nxt (all.drop k) = N := ⟨_, rfl⟩
  obtain ⟨K, hK⟩ : ∃ K, kd (all.drop k) = K := ⟨_, rfl⟩
  obtain ⟨q1, -, -, -⟩ := nxt_kd (h.goodD k)
  have H : Hid (QI R tA c all e w (w.alloc (.cells (mi1 noI).toArray 58)) k 0 0 noI ∧ nxt (all.drop k) = N ∧ kd (all.drop k) = K ∧ N ≠ 36 ∧ N ≠ 58 ∧ (N = 1 ↔ K = 1)) := ⟨QI.start h noI, hN, hK, by rw [← hN]; exact h36, by rw [← hN]; exact h58, by rw [← hN, ← hK]; exact q1⟩
  have hlen := h.len
  clear h h36 h58 hN hK q1
  go_enter Tryz.func107, Tryz.ntmps107
  go_wp2_with fail
  refine (qname_no H.out.1.rq H.out.2.1 H.out.2.2.2.1 H.out.2.2.2.2.1).mono ?_
  rintro x w1 ⟨rfl, hm, hr⟩
  have H1 : Hid (QI R tA c all e w (w1.alloc (.cells (mi1 noI).toArray 58)) k 0 0 noI) := (H.out.1.next hm hr).allocs _
  clear hm hr
  go_wp2_with fail
  refine (kind_any H1.out.rq).mono ?_
  rintro x w2 ⟨rfl, hg⟩
  have H2 : Hid (QI R tA c all e w w2 k 0 0 noI) := H1.out.grown hg.below
  clear hg H1
  rw [H.out.2.2.1]
  obtain ⟨r0, r1, -, -, -⟩ := H2.out.rq.cells
  by_cases hK1 : K = 1
  · have HK1 : Hid (K = 1) := hK1
    have e1 : (K != 1) = false := by simpa using hK1
    clear hK1
    cases hd : all.drop k with
    | nil => exact absurd (by rw [← H.out.2.2.1, hd]; exact fun h => by cases h) (not_not_intro HK1.out)
    | cons t r =>
      obtain ⟨hlt, hdr, hgu, g, rfl, hgR, hcell⟩ := H2.out.rq.tok hd
      have HD : Hid (all.drop k = t :: r ∧ all.drop (k + 1) = r ∧ which t = 1) := ⟨hd, hdr, by
        have := H.out.2.2.2.2.2.2 HK1.out
        rw [← H.out.2.1, hd] at this
        exact this⟩
      have t3 := (hcell w2 (CK.refl _)).2.2.1
      have fr := H2.out.rq.frozen 1
      clear hd hdr hgu hcell
      go_wp2_with fail
      have H3 : Hid (QI R (some ⟨g, 0, none⟩) c all e w (w2.setCell ⟨R, 1, none⟩ (.int .i64 ((k : Int) + 1))) (k + 1) 0 0 noI) := H2.out.setk hlt
      obtain ⟨K2, hK2⟩ : ∃ K2, kd (all.drop (k + 1)) = K2 := ⟨_, rfl⟩
      have HK2 : Hid (kd (all.drop (k + 1)) = K2 ∧ (nxt r = 20 ↔ K2 = 20)) := ⟨hK2, by
        have := (nxt_kd (H3.out.rq.goodD (k + 1))).2.2.1 10 (by omega)
        rw [hK2, HD.out.2.1] at this
        exact this⟩
      clear hK2
      refine (took_any H3.out.rq 10 (by omega) _ rfl HK2.out.1).mono ?_
      rintro x w3 ⟨rfl, hm, hr⟩
      clear H2 r0 r1 fr t3
      by_cases h20 : K2 = 20
      · have HN2 : Hid (nxt r = 20) := HK2.out.2.2 h20
        have e2 : (K2 == 10 + ((10 : Nat) : Int)) = true := by simpa using h20
        rw [tkk, e2, if_pos rfl] at hr
        have H4 : Hid (QI R (some ⟨g, 0, none⟩) c all e w w3 (k + 2) 0 0 noI) := H3.out.next hm hr
        clear hm hr H3
        rw [e2]
        clear e2 h20
        obtain ⟨K3, hK3⟩ : ∃ K3, kd (all.drop (k + 2)) = K3 := ⟨_, rfl⟩
        have hrt : all.drop (k + 2) = r.tail := by
          rw [← HD.out.2.1, List.tail_drop]
        have HK3 : Hid (kd (all.drop (k + 2)) = K3 ∧ (nxt r.tail = 1 ↔ K3 = 1) ∧ all.drop (k + 2) = r.tail) := ⟨hK3, by
          have := (nxt_kd (H4.out.rq.goodD (k + 2))).1
          rw [hK3, hrt] at this
          exact this, hrt⟩
        clear hK3 hrt
        go_wp2_with fail
        refine (kind_any H4.out.rq).mono ?_
        rintro x w4 ⟨rfl, hg⟩
        rw [HK3.out.1]
        have H5 : Hid (QI R (some ⟨g, 0, none⟩) c all e w w4 (k + 2) 0 0 noI) := H4.out.grown hg.below
        clear hg H4
        obtain ⟨r0, r1, -, -, -⟩ := H5.out.rq.cells
        by_cases h31 : K3 = 1
        · have e3 : (K3 != 1) = false := by simpa using h31
          have HN3 : Hid (nxt r.tail = 1) := HK3.out.2.1.2 h31
          cases hd2 : all.drop (k + 2) with
          | nil => exact absurd HN3.out (by rw [← HK3.out.2.2, hd2]; decide)
          | cons t2 r2 =>
            obtain ⟨hlt2, hdr2, -, g2, hg2, -, hcell2⟩ := H5.out.rq.tok hd2
            obtain rfl : g2 = g := by simpa using hg2.symm
            have HD2 : Hid (r.tail = t2 :: r2 ∧ all.drop (k + 2 + 1) = r2 ∧ which t2 = 1) := ⟨by rw [← HK3.out.2.2, hd2], hdr2, by
              have := HN3.out
              rw [← HK3.out.2.2, hd2] at this
              exact this⟩
            have t5 := (hcell2 w4 (CK.refl _)).2.2.1
            clear hd2 hdr2 hcell2 h31 hg2
            go_wp2
            go_quiet (fail)
            have H6 : Hid (QI R (some ⟨g2, 0, none⟩) c all e w (w4.drewN nq) (k + 2) 0 0 noI) := H5.out.grown ((Grown.refl w4).drewN nq).below
            generalize w4.drewN nq = w5 at H6 ⊢
            clear H5 r0 r1 t5
            obtain ⟨r0, r1, -, -, -⟩ := H6.out.rq.cells
            have fr := H6.out.rq.frozen 1
            have hk3 : (((k + 2 : Nat) : Int) + 1) = (k : Int) + 2 + 1 := by omega
            have H7 : Hid (QI R (some ⟨g2, 0, none⟩) c all e w (w5.setCell ⟨R, 1, none⟩ (.int .i64 ((k : Int) + 2 + 1))) (k + 2 + 1) 0 0 noI) := by
              have h7 := H6.out.setk hlt2
              rw [hk3] at h7
              exact h7
            clear hk3
            go_wp2_with fail
            refine (qranged_any t.u t2.u _).mono ?_
            rintro x w6 ⟨rfl, hw6⟩
            subst hw6
            generalize w5.setCell ⟨R, 1, none⟩ (.int .i64 ((k : Int) + 2 + 1)) = w6 at H7 ⊢
            clear H6 r0 r1 fr
            have hu : upToT e t r.tail = if isRng t.u t2.u then .ok (.mk 6 0 ⟨#[]⟩ [] t.u t2.u false 0) r2 else .no t.a 51 := by
              rw [HD2.out.1]
              simp [upToT, HD2.out.2.2]
            have HU : Hid (partT e (all.drop k) = if isRng t.u t2.u then .ok (.mk 6 0 ⟨#[]⟩ [] t.u t2.u false 0) r2 else .no t.a 51) := by
              show _ = _
              rw [HD.out.1, part_unit e HD.out.2.2, if_pos HN2.out, hu]
            clear hu
            cases hir : isRng t.u t2.u
            · have HI : Hid (isRng t.u t2.u = false) := hir
              clear hir
              go_wp2_with fail
              refine (wrong_any H7.out.rq k 51 (atOf_drop e HD.out.1)).mono ?_
              rintro x w7 ⟨rfl, hm, hr⟩
              rw [nF_zero, nF_zero] at hr
              have H8 : Hid (QI R (some ⟨g2, 0, none⟩) c all e w w7 (k + 2 + 1) t.a 51 noI) := H7.out.next hm hr
              clear hm hr H7
              obtain ⟨c0, c1, c2, c3, c4, c5, c6, c7⟩ := H8.out.ib.cells
              obtain ⟨f0, f1, f2, f3, f4, f5, f6, f7⟩ := H8.out.ib.frozen
              go_wp2
              obtain ⟨k1, k2, k3⟩ := H8.out.tell (rgI t.u t2.u)
              refine ret_it rfl rfl k1 ?_
              unfold OutQ
              rw [HU.out, HI.out]
              exact ⟨k2, _, _, rfl, ⟨rgI t.u t2.u, rfl⟩, k3⟩
            · have HI : Hid (isRng t.u t2.u = true) := hir
              clear hir
              obtain ⟨c0, c1, c2, c3, c4, c5, c6, c7⟩ := H7.out.ib.cells
              obtain ⟨f0, f1, f2, f3, f4, f5, f6, f7⟩ := H7.out.ib.frozen
              go_wp2
              obtain ⟨k1, k2, k3⟩ := H7.out.tell (rgI t.u t2.u)
              refine ret_it rfl rfl k1 ?_
              unfold OutQ
              rw [HU.out, HI.out]
              exact ⟨k2, _, _, rfl, ⟨rgI t.u t2.u, rfl, ⟨rfl, rfl, rfl, rfl, rfl, rfl, rfl⟩, rfl, rfl, rfl, rfl⟩, HD2.out.2.1, k3⟩
        · have e3 : (K3 != 1) = true := by simpa using h31
          have HN3 : Hid (nxt r.tail ≠ 1) := fun h => h31 (HK3.out.2.1.1 h)
          clear h31
          go_wp2_with fail
          refine (wrong_any H5.out.rq (k + 2) 50 rfl).mono ?_
          rintro x w5 ⟨rfl, hm, hr⟩
          rw [nF_zero, nF_zero] at hr
          have H6 : Hid (QI R (some ⟨g, 0, none⟩) c all e w w5 (k + 2) (atOf e (all.drop (k + 2))) 50 noI) := H5.out.next hm hr
          clear hm hr H5 r0 r1
          obtain ⟨c0, c1, c2, c3, c4, c5, c6, c7⟩ := H6.out.ib.cells
          obtain ⟨f0, f1, f2, f3, f4, f5, f6, f7⟩ := H6.out.ib.frozen
          go_wp2
          obtain ⟨k1, k2, k3⟩ := H6.out.tell noI
          refine ret_it rfl rfl k1 ?_
          unfold OutQ
          have hu : upToT e t r.tail = .no (atOf e (all.drop (k + 2))) 50 := by
            rw [HK3.out.2.2]
            cases hrr : r.tail with
            | nil => rfl
            | cons t2 r2 =>
              have := HN3.out
              rw [hrr] at this
              simp only [nxt] at this
              simp [upToT, this, atOf]
          rw [HD.out.1, part_unit e HD.out.2.2, if_pos HN2.out, hu]
          exact ⟨k2, _, k + 2, rfl, ⟨noI, rfl⟩, k3⟩
      · have HN2 : Hid (nxt r ≠ 20) := fun h => h20 (HK2.out.2.1 h)
        have e2 : (K2 == 10 + ((10 : Nat) : Int)) = false := by simpa using h20
        rw [tkk, e2] at hr
        have H4 : Hid (QI R (some ⟨g, 0, none⟩) c all e w w3 (k + 1) 0 0 noI) := H3.out.next hm hr
        clear hm hr H3
        rw [e2]
        clear e2 h20
        obtain ⟨c0, c1, c2, c3, c4, c5, c6, c7⟩ := H4.out.ib.cells
        obtain ⟨f0, f1, f2, f3, f4, f5, f6, f7⟩ := H4.out.ib.frozen
        go_wp2
        obtain ⟨k1, k2, k3⟩ := H4.out.tell (unI t.u)
        refine ret_it rfl rfl k1 ?_
        unfold OutQ
        rw [HD.out.1, part_unit e HD.out.2.2, if_neg HN2.out]
        exact ⟨k2, _, k + 1, rfl, ⟨unI t.u, rfl, ⟨rfl, rfl, rfl, rfl, rfl, rfl, rfl⟩, rfl, rfl, rfl, rfl⟩, HD.out.2.1, k3⟩
  · have HK1 : Hid (K ≠ 1) := hK1
    have e1 : (K != 1) = true := by simpa using hK1
    clear hK1
    go_wp2_with fail
    refine (wrong_any H2.out.rq k 50 rfl).mono ?_
    rintro x w3 ⟨rfl, hm, hr⟩
    rw [nF_zero, nF_zero] at hr
    have H3 : Hid (QI R tA c all e w w3 k (atOf e (all.drop k)) 50 noI) := H2.out.next hm hr
    clear hm hr H2 r0 r1
    obtain ⟨c0, c1, c2, c3, c4, c5, c6, c7⟩ := H3.out.ib.cells
    obtain ⟨f0, f1, f2, f3, f4, f5, f6, f7⟩ := H3.out.ib.frozen
    go_wp2
    obtain ⟨k1, k2, k3⟩ := H3.out.tell noI
    refine ret_it rfl rfl k1 ?_
    unfold OutQ
    rw [part_bad e (by rw [H.out.2.1]; exact fun h => HK1.out (H.out.2.2.2.2.2.1 h)) (by rw [H.out.2.1]; exact H.out.2.2.2.1) (by rw [H.out.2.1]; exact H.out.2.2.2.2.1)]
    exact ⟨k2, _, k, rfl, ⟨noI, rfl⟩, k3⟩
theorem qpart_any {R : Nat} {tA : Option Addr} {c : Nat} {all : List Tok} {e : Int} {w : World} {k : Nat} (h : RQ R tA c all e w k 0 0) :
    Calls Tryz.prog 107 #[.pointer (some ⟨R, 0, none⟩)] w (OutQ R tA c all e w (VQ 0 w.heap.size) ShI (partT e (all.drop k))) := by
  by_cases h36 : nxt (all.drop k) = 36
  · cases hd : all.drop k with
    | nil => rw [hd] at h36; exact absurd h36 (by decide)
    | cons t r => rw [← hd]; exact qpart_name h hd (.inl (by rw [hd] at h36; exact h36))
  · by_cases h58 : nxt (all.drop k) = 58
    · cases hd : all.drop k with
      | nil => rw [hd] at h58; exact absurd h58 (by decide)
      | cons t r => rw [← hd]; exact qpart_name h hd (.inr (by rw [hd] at h58; exact h58))
    · exact qpart_else h h36 h58
end Go.Proofs
