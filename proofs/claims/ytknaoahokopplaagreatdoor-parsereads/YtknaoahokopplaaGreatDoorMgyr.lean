/-
  Several texts in one (Ygr Yhr).
-/
import Derived.Test.YtknaoahokopplaaGreatDoorMgxr
import Derived.Deep.RegionWith
import Derived.Deep.AppendLies
import Derived.Deep.DeepCutAuto
namespace Go.Proofs
open Go.RowKit Go.Shelf

set_option maxRecDepth 100000
attribute [local go_sem] Oper.semAt_some

theorem RQ.nk {R : Nat} {tA : Option Addr} {c : Nat} {all : List Tok} {e : Int} {w : World} {k : Nat} {fa fc : Int} (h : RQ R tA c all e w k fa fc) (j : Nat) {N K : Int} (hN : nxt (all.drop j) = N) (hK : kd (all.drop j) = K) : (N = 1 ↔ K = 1) ∧ (N = 3 ↔ K = 3) ∧ ∀ i : Nat, i < 13 → (N = 10 + (i : Int) ↔ K = 10 + (i : Int)) := by
  obtain ⟨q1, q2, q3, -⟩ := nxt_kd (h.goodD j)
  rw [hN, hK] at q1 q2 q3
  exact ⟨q1, q2, q3⟩
theorem side_unit (e : Int) {t : Tok} {r : List Tok} (h : which t = 1) : sideT e 62 (t :: r) = .ok (.mk 1 t.u ⟨#[]⟩ [] 0 0 false 0) r := by
  simp [sideT, itemT, restT, h, begun, Nat.testBit]
theorem side_name (e : Int) {t : Tok} {r : List Tok} (may : Nat) (hm : may = 62 ∨ may = 60) (h : which t = 36 ∨ which t = 58) : sideT e may (t :: r) = .ok (.mk (if which t = 36 then 2 else 3) 0 (bareN t) [] 0 0 false 0) r := by
  rcases hm with rfl | rfl <;> rcases h with h | h <;> simp [sideT, itemT, restT, h, begun, Nat.testBit]
theorem side_any17 (e : Int) {t : Tok} {r : List Tok} (may : Nat) (hm : may = 62 ∨ may = 60) (h : which t = 17) : sideT e may (t :: r) = .ok (.mk 4 0 ⟨#[]⟩ [] 0 0 false 0) r := by
  rcases hm with rfl | rfl <;> simp [sideT, itemT, restT, h, begun, Nat.testBit]
theorem side_bad (e : Int) {ts : List Tok} (h1 : nxt ts ≠ 1) (h2 : nxt ts ≠ 36) (h3 : nxt ts ≠ 58) (h4 : nxt ts ≠ 17) (h5 : nxt ts ≠ 18) : sideT e 62 ts = .no (atOf e ts) 50 := by
  cases ts with
  | nil => rfl
  | cons t r =>
    simp only [nxt] at h1 h2 h3 h4 h5
    have hb : Nat.testBit 62 (begun (which t)) = false := by
      unfold begun
      rw [if_neg h1, if_neg h2, if_neg h3, if_neg h4, if_neg h5]
      split <;> decide
    simp [sideT, itemT, hb, atOf]
def anI : MI := ⟨4, 0, ⟨#[]⟩, none, 0, 0, 0, 0, false, 0⟩
theorem VQ0 {b : Nat} {w' : World} (k u : Int) (t : ByteArray) (lo hi : Int) (nt : Bool) (key : Int) : VQ 2 b w' (mia ⟨k, u, t, none, 0, 0, lo, hi, nt, key⟩) (.mk k u t [] lo hi nt key) := ⟨_, rfl, DR0 1 w' b none k u t lo hi nt key⟩
set_option maxHeartbeats 4000000 in
theorem qitem_unit {R : Nat} {tA : Option Addr} {c : Nat} {all : List Tok} {e : Int} {w : World} {k : Nat} (h : RQ R tA c all e w k 0 0) {t : Tok} {r : List Tok} (hd : all.drop k = t :: r) (hw : which t = 1) :
    Calls Tryz.prog 58 #[.pointer (some ⟨R, 0, none⟩)] w (OutQ R tA c all e w (VQ 2 w.heap.size) ShI (sideT e 62 (all.drop k))) := by
  have hS : sideT e 62 (all.drop k) = .ok (.mk 1 t.u ⟨#[]⟩ [] 0 0 false 0) r := by rw [hd]; exact side_unit e hw
  have hK : kd (all.drop k) = 1 := ((h.nk k (by rw [hd]; exact hw) rfl).1.1 rfl)
  obtain ⟨hlt, hdr, hgu, g, rfl, hgR, hcell⟩ := h.tok hd
  have H : Hid (QI R (some ⟨g, 0, none⟩) c all e w (w.alloc (.cells (mi1 noI).toArray 58)) k 0 0 noI ∧ kd (all.drop k) = 1 ∧ sideT e 62 (all.drop k) = .ok (.mk 1 t.u ⟨#[]⟩ [] 0 0 false 0) r ∧ all.drop (k + 1) = r) := ⟨QI.start h noI, hK, hS, hdr⟩
  have HT : Hid (∀ w', CK w w' → w'.cell? ⟨g, k * 6 + 3, none⟩ = some (.int .i64 t.u)) := fun w' ck => (hcell w' ck).2.2.1
  have hlen := h.len
  clear h hd hw hS hK hdr hgu hcell
  go_enter Tryz.func58, Tryz.ntmps58
  go_wp2_with fail
  refine (kind_any H.out.1.rq).mono ?_
  rintro x w1 ⟨rfl, hg⟩
  rw [H.out.2.1]
  have H1 : Hid (QI R (some ⟨g, 0, none⟩) c all e w w1 k 0 0 noI ∧ CK w w1) := ⟨H.out.1.grown hg.below, (ck_below ((Below.refl _ w).alloc (Nat.le_refl _) _)).trans hg.ck⟩
  clear hg
  obtain ⟨r0, r1, -, -, -⟩ := H1.out.1.rq.cells
  have fr := H1.out.1.rq.frozen 1
  have t4 := HT.out w1 H1.out.2
  go_wp2
  have H2 : Hid (QI R (some ⟨g, 0, none⟩) c all e w (w1.setCell ⟨R, 1, none⟩ (.int .i64 ((k : Int) + 1))) (k + 1) 0 0 noI) := H1.out.1.setk hlt
  have t5 : (w1.setCell ⟨R, 1, none⟩ (.int .i64 ((k : Int) + 1))).cell? ⟨g, k * 6 + 3, none⟩ = some (.int .i64 t.u) := by
    simp only [World.cell?, heap_set_other w1 hgR]
    exact t4
  generalize w1.setCell ⟨R, 1, none⟩ (.int .i64 ((k : Int) + 1)) = W2 at H2 t5 ⊢
  clear H1 r0 r1 fr t4
  obtain ⟨r0, r1, -, -, -⟩ := H2.out.rq.cells
  obtain ⟨c0, c1, c2, c3, c4, c5, c6, c7⟩ := H2.out.ib.cells
  obtain ⟨f0, f1, f2, f3, f4, f5, f6, f7⟩ := H2.out.ib.frozen
  go_region
  all_goals go_wp2
  all_goals
    obtain ⟨k1, k2, k3⟩ := H2.out.tellD (unI t.u)
    refine ret_it rfl rfl k1 ?_
    unfold OutQ
    rw [H.out.2.2.1]
    exact ⟨k2, _, k + 1, rfl, VQ0 _ _ _ _ _ _ _, H.out.2.2.2, k3⟩
set_option maxHeartbeats 4000000 in
theorem qitem_name {R : Nat} {tA : Option Addr} {c : Nat} {all : List Tok} {e : Int} {w : World} {k : Nat} (h : RQ R tA c all e w k 0 0) {t : Tok} {r : List Tok} (hd : all.drop k = t :: r) (hw : which t = 36 ∨ which t = 58) :
    Calls Tryz.prog 58 #[.pointer (some ⟨R, 0, none⟩)] w (OutQ R tA c all e w (VQ 2 w.heap.size) ShI (sideT e 62 (all.drop k))) := by
  obtain ⟨kk, hkk, hp⟩ : ∃ kk : Int, (∀ W, RQ R tA c all e W k 0 0 → Calls Tryz.prog 106 #[.pointer (some ⟨R, 0, none⟩)] W fun x w' => x = .returned (.tuple #[mia (nmI kk (bareN t)), .bool true]) ∧ Mv W w' R none ∧ RQ R tA c all e w' (k + 1) 0 0) ∧ sideT e 62 (all.drop k) = .ok (.mk kk 0 (bareN t) [] 0 0 false 0) r := by
    rcases hw with hw | hw
    · refine ⟨2, fun W hW => qname_var hW hd hw, ?_⟩
      rw [hd, side_name e 62 (.inl rfl) (.inl hw), if_pos hw]
    · refine ⟨3, fun W hW => qname_class hW hd hw, ?_⟩
      rw [hd, side_name e 62 (.inl rfl) (.inr hw), if_neg (by omega)]
  obtain ⟨K, hK⟩ : ∃ K, kd (all.drop k) = K := ⟨_, rfl⟩
  have e1 : (K == 1) = false := by
    have := (h.nk k rfl hK).1
    rw [hd] at this
    simp only [nxt] at this
    have h1 : K ≠ 1 := fun h => by have := this.2 h; omega
    simpa using h1
  have H : Hid (QI R tA c all e w (w.alloc (.cells (mi1 noI).toArray 58)) k 0 0 noI ∧ (∀ W, RQ R tA c all e W k 0 0 → Calls Tryz.prog 106 #[.pointer (some ⟨R, 0, none⟩)] W fun x w' => x = .returned (.tuple #[mia (nmI kk (bareN t)), .bool true]) ∧ Mv W w' R none ∧ RQ R tA c all e w' (k + 1) 0 0) ∧ sideT e 62 (all.drop k) = .ok (.mk kk 0 (bareN t) [] 0 0 false 0) r ∧ all.drop (k + 1) = r ∧ kd (all.drop k) = K) := ⟨QI.start h noI, hkk, hp, (h.tok hd).2.1, hK⟩
  generalize bareN t = bn at H ⊢
  clear h hd hw hkk hp hK
  go_enter Tryz.func58, Tryz.ntmps58
  go_wp2_with fail
  refine (kind_any H.out.1.rq).mono ?_
  rintro x w0 ⟨rfl, hg⟩
  rw [H.out.2.2.2.2]
  have H0 : Hid (QI R tA c all e w w0 k 0 0 noI) := H.out.1.grown hg.below
  clear hg
  go_wp2_with fail
  refine (H.out.2.1 _ H0.out.rq).mono ?_
  rintro x w1 ⟨rfl, hm, hr⟩
  have H1 : Hid (QI R tA c all e w w1 (k + 1) 0 0 noI) := H0.out.next hm hr
  clear hm hr H0
  have cc := fun o => (H1.out.allocs o).ib.cells
  have ff := fun o => (H1.out.allocs o).ib.frozen
  have c0 := fun o => (cc o).1
  have c1 := fun o => (cc o).2.1
  have c2 := fun o => (cc o).2.2.1
  have c3 := fun o => (cc o).2.2.2.1
  have c4 := fun o => (cc o).2.2.2.2.1
  have c5 := fun o => (cc o).2.2.2.2.2.1
  have c6 := fun o => (cc o).2.2.2.2.2.2.1
  have c7 := fun o => (cc o).2.2.2.2.2.2.2
  have f0 := fun o => (ff o).1
  have f1 := fun o => (ff o).2.1
  have f2 := fun o => (ff o).2.2.1
  have f3 := fun o => (ff o).2.2.2.1
  have f4 := fun o => (ff o).2.2.2.2.1
  have f5 := fun o => (ff o).2.2.2.2.2.1
  have f6 := fun o => (ff o).2.2.2.2.2.2.1
  have f7 := fun o => (ff o).2.2.2.2.2.2.2
  clear cc ff
  go_wp2
  obtain ⟨k1, k2, k3⟩ := (H1.out.allocs (.cells (mi1 (nmI kk bn)).toArray 58)).tell (nmI kk bn)
  refine ret_it rfl rfl k1 ?_
  unfold OutQ
  rw [H.out.2.2.1]
  exact ⟨k2, _, k + 1, rfl, VQ0 _ _ _ _ _ _ _, H.out.2.2.2.1, k3⟩
theorem drop_cons_of_nxt {all : List Tok} {k : Nat} {N : Int} (h : nxt (all.drop k) = N) (hN : N ≠ 0) : ∃ t r, all.drop k = t :: r ∧ which t = N := by
  cases hd : all.drop k with
  | nil => rw [hd] at h; exact absurd h.symm hN
  | cons t r => rw [hd] at h; exact ⟨t, r, rfl, h⟩
set_option maxHeartbeats 4000000 in
theorem qitem_else {R : Nat} {tA : Option Addr} {c : Nat} {all : List Tok} {e : Int} {w : World} {k : Nat} (h : RQ R tA c all e w k 0 0) (h1 : nxt (all.drop k) ≠ 1) (h36 : nxt (all.drop k) ≠ 36) (h58 : nxt (all.drop k) ≠ 58) (h18 : nxt (all.drop k) ≠ 18) :
    Calls Tryz.prog 58 #[.pointer (some ⟨R, 0, none⟩)] w (OutQ R tA c all e w (VQ 2 w.heap.size) ShI (sideT e 62 (all.drop k))) := by
  obtain ⟨N, hN⟩ : ∃ N, nxt (all.drop k) = N := ⟨_, rfl⟩
  obtain ⟨K, hK⟩ : ∃ K, kd (all.drop k) = K := ⟨_, rfl⟩
  have q := h.nk k hN hK
  have q17 := q.2.2 7 (by omega)
  have q18 := q.2.2 8 (by omega)
  have H : Hid (QI R tA c all e w (w.alloc (.cells (mi1 noI).toArray 58)) k 0 0 noI ∧ nxt (all.drop k) = N ∧ kd (all.drop k) = K ∧ N ≠ 36 ∧ N ≠ 58 ∧ N ≠ 1 ∧ N ≠ 18 ∧ (N = 17 ↔ K = 17)) := ⟨QI.start h noI, hN, hK, by rw [← hN]; exact h36, by rw [← hN]; exact h58, by rw [← hN]; exact h1, by rw [← hN]; exact h18, ⟨fun h => by have := q17.1 (by omega); omega, fun h => by have := q17.2 (by omega); omega⟩⟩
  have e1 : (K == 1) = false := by
    have : K ≠ 1 := fun h => h1 (by rw [hN]; exact q.1.2 h)
    simpa using this
  have HK18 : Hid ((K == 10 + ((8 : Nat) : Int)) = false) := by
    have : K ≠ 10 + ((8 : Nat) : Int) := fun h => h18 (by rw [hN]; have := q18.2 h; omega)
    show _ = _
    simpa using this
  clear h h1 h36 h58 h18 hN hK q q17 q18
  go_enter Tryz.func58, Tryz.ntmps58
  go_wp2_with fail
  refine (kind_any H.out.1.rq).mono ?_
  rintro x w0 ⟨rfl, hg⟩
  rw [H.out.2.2.1]
  have H0 : Hid (QI R tA c all e w w0 k 0 0 noI) := H.out.1.grown hg.below
  clear hg
  go_wp2_with fail
  refine (qname_no H0.out.rq H.out.2.1 H.out.2.2.2.1 H.out.2.2.2.2.1).mono ?_
  rintro x w1 ⟨rfl, hm, hr⟩
  have H1 : Hid (QI R tA c all e w (w1.alloc (.cells (mi1 noI).toArray 58)) k 0 0 noI) := (H0.out.next hm hr).allocs _
  clear hm hr H0
  go_wp2_with fail
  refine (took_any H1.out.rq 7 (by omega) _ rfl H.out.2.2.1).mono ?_
  rintro x w2 ⟨rfl, hm, hr⟩
  by_cases h17 : K = 17
  · have e2 : (K == 10 + ((7 : Nat) : Int)) = true := by simpa using h17
    rw [tkk, e2, if_pos rfl] at hr
    have H2 : Hid (QI R tA c all e w w2 (k + 1) 0 0 noI) := H1.out.next hm hr
    obtain ⟨t, r, hd, hwt⟩ := drop_cons_of_nxt H.out.2.1 (fun h => by rw [H.out.2.2.2.2.2.2.2.2 h17] at h; cases h)
    have HS : Hid (sideT e 62 (all.drop k) = .ok (.mk 4 0 ⟨#[]⟩ [] 0 0 false 0) r ∧ all.drop (k + 1) = r) := ⟨by rw [hd]; exact side_any17 e 62 (.inl rfl) (hwt.trans (H.out.2.2.2.2.2.2.2.2 h17)), (drop_next hd).1⟩
    clear hm hr H1 hd hwt h17
    rw [e2]
    clear e2
    obtain ⟨c0, c1, c2, c3, c4, c5, c6, c7⟩ := H2.out.ib.cells
    obtain ⟨f0, f1, f2, f3, f4, f5, f6, f7⟩ := H2.out.ib.frozen
    go_wp2
    obtain ⟨k1, k2, k3⟩ := H2.out.tell anI
    refine ret_it rfl rfl k1 ?_
    unfold OutQ
    rw [HS.out.1]
    exact ⟨k2, _, k + 1, rfl, VQ0 _ _ _ _ _ _ _, HS.out.2, k3⟩
  · have e2 : (K == 10 + ((7 : Nat) : Int)) = false := by simpa using h17
    rw [tkk, e2] at hr
    have H2 : Hid (QI R tA c all e w w2 k 0 0 noI) := H1.out.next hm hr
    have HN17 : Hid (N ≠ 17) := fun h => h17 (H.out.2.2.2.2.2.2.2.1 h)
    clear hm hr H1 h17
    rw [e2]
    clear e2
    go_wp2_with fail
    refine (took_any H2.out.rq 8 (by omega) _ rfl H.out.2.2.1).mono ?_
    rintro x w3 ⟨rfl, hm, hr⟩
    rw [tkk, HK18.out] at hr
    have H3 : Hid (QI R tA c all e w w3 k 0 0 noI) := H2.out.next hm hr
    clear hm hr H2
    rw [HK18.out]
    obtain ⟨r0, r1, -, -, -⟩ := H3.out.rq.cells
    go_wp2_with fail
    refine (wrong_any H3.out.rq k 50 rfl).mono ?_
    rintro x w4 ⟨rfl, hm, hr⟩
    rw [nF_zero, nF_zero] at hr
    have H4 : Hid (QI R tA c all e w w4 k (atOf e (all.drop k)) 50 noI) := H3.out.next hm hr
    clear hm hr H3 r0 r1
    obtain ⟨c0, c1, c2, c3, c4, c5, c6, c7⟩ := H4.out.ib.cells
    obtain ⟨f0, f1, f2, f3, f4, f5, f6, f7⟩ := H4.out.ib.frozen
    go_wp2
    obtain ⟨k1, k2, k3⟩ := H4.out.tell noI
    refine ret_it rfl rfl k1 ?_
    unfold OutQ
    have hS := side_bad e (ts := all.drop k) (by rw [H.out.2.1]; exact H.out.2.2.2.2.2.1) (by rw [H.out.2.1]; exact H.out.2.2.2.1) (by rw [H.out.2.1]; exact H.out.2.2.2.2.1) (by rw [H.out.2.1]; exact HN17.out) (by rw [H.out.2.1]; exact H.out.2.2.2.2.2.2.1)
    rw [hS]
    exact ⟨k2, _, k, rfl, ⟨noI, rfl⟩, k3⟩
end Go.Proofs
namespace Go.Proofs
open Go.RowKit Go.Shelf

set_option maxRecDepth 100000
attribute [local go_sem] Oper.semAt_some

/-- a set's end, when some parts are read -/
def fin5 (e : Int) (nt : Bool) (ps : List It) (s : Res (List It)) : Res It := s.bind fun xs r2 => (wantT e 19 r2).bind fun _ r3 => .ok (.mk 5 0 ⟨#[]⟩ (ps ++ xs) 0 0 nt 0) r3
def rowP (e : Int) (d : Nat) (ts : List Tok) : Res (List It) := rowT e 78 (partT e) d ts
theorem bind_assoc {α β γ : Type} (x : Res α) (f : α → List Tok → Res β) (g : β → List Tok → Res γ) : (x.bind f).bind g = x.bind fun a r => (f a r).bind g := by
  cases x <;> rfl
theorem fin5_step (e : Int) (nt : Bool) (ps : List It) (d : Nat) {ts : List Tok} (h : Nat.testBit 78 (begun (nxt ts)) = true) : fin5 e nt ps (rowP e (d + 1) ts) = (partT e ts).bind fun x r => fin5 e nt (ps ++ [x]) (rowP e d r) := by
  unfold fin5 rowP
  rw [rowT, if_pos h, bind_assoc]
  congr 1
  funext x r
  rw [bind_assoc]
  congr 1
  funext xs r2
  simp only [Res.bind]
  cases wantT e 19 r2 <;> simp
theorem fin5_end (e : Int) (nt : Bool) (ps : List It) (d : Nat) {ts : List Tok} (h : Nat.testBit 78 (begun (nxt ts)) = false) : fin5 e nt ps (rowP e d ts) = (wantT e 19 ts).bind fun _ r3 => .ok (.mk 5 0 ⟨#[]⟩ ps 0 0 nt 0) r3 := by
  unfold fin5 rowP
  cases d with
  | zero => rw [rowT, if_neg (by simp [h])]; simp [Res.bind]
  | succ d => rw [rowT, if_neg (by simp [h])]; simp [Res.bind]
theorem fin5_many (e : Int) (nt : Bool) (ps : List It) {ts : List Tok} (h : Nat.testBit 78 (begun (nxt ts)) = true) : fin5 e nt ps (rowP e 0 ts) = .no (atOf e ts) 52 := by
  unfold fin5 rowP
  rw [rowT, if_pos h]
  rfl
theorem bit78 {N : Int} : Nat.testBit 78 (begun N) = decide (N = 1 ∨ N = 36 ∨ N = 58) := by
  by_cases h : N = 1 ∨ N = 36 ∨ N = 58
  · rw [decide_eq_true h]
    rcases h with rfl | rfl | rfl <;> decide
  · rw [decide_eq_false h]
    unfold begun
    rw [if_neg (fun e => h (.inl e)), if_neg (fun e => h (.inr (.inl e))), if_neg (fun e => h (.inr (.inr e)))]
    repeat' split
    all_goals decide
theorem side_set (e : Int) {t : Tok} {r : List Tok} (may : Nat) (hm : may = 62 ∨ may = 60) (h : which t = 18) : sideT e may (t :: r) = fin5 e (passT 15 r).1 [] (rowP e 512 (passT 15 r).2) := by
  rcases hm with rfl | rfl <;> simp [sideT, itemT, restT, h, begun, Nat.testBit, fin5, rowP, partsT]
abbrev seI (nt : Bool) (A : Option Addr) (n c : Nat) : MI := ⟨5, 0, ⟨#[]⟩, A, n, c, 0, 0, nt, 0⟩
/-- a set on its way: the reader, the result's block, the set's block B, its parts -/
structure SP (R : Nat) (tA : Option Addr) (c : Nat) (all : List Tok) (e : Int) (w W : World) (B : Nat) (nt : Bool) (S : Res It) (f : Nat) (k : Nat) (fa fc : Int) (A : Option Addr) (n cc : Nat) (ps : List It) : Prop where
  qi : QI R tA c all e w W k fa fc noI
  ib : IB W B (seI nt A n cc)
  Bgt : w.heap.size < B
  fine : fc = 0 → fa = 0 ∧ OwnI 0 W (B + 1) (.slice A n cc) ps ∧ ps.length = n ∧ n ≤ 512 ∧ S = fin5 e nt ps (rowP e (512 - n) (all.drop k)) ∧ f = 2 * (513 - n) + 1
  bad : fc ≠ 0 → S = .no fa fc ∧ f = 0
end Go.Proofs
