/-
  The document's reader: a name as an item; whether an item begins.
-/
import Derived.Test.YtknaoahokopplaaGreatDoorMgwr
namespace Go.Proofs
open Go.RowKit Go.Shelf

set_option maxRecDepth 100000
attribute [local go_sem] Oper.semAt_some

theorem ret_it2 {fn : Func} {p q : Tmp} {W : World} {B : Nat} {tmps : Array Value} {m : MI} {v : Value} {Q : Ending → World → Prop} (hr : fn.results = #[.cell p 58, .tmp q]) (hp : tmps.getD p undef = .pointer (some ⟨B, 0, none⟩)) (hq : tmps.getD q undef = v) (h : IB W B m)
    (K : Q (.returned (.tuple #[mia m, v])) W) : bodyPost Tryz.prog fn Q Exit.ret { tmps := tmps, defers := [] } W := by
  refine bodyPost_ret (v := .tuple #[mia m, v]) ?_ rfl K
  obtain ⟨c0, c1, c2, c3, c4, c5, c6, c7⟩ := h.cells
  rw [results_cell_tmp hr]
  simp only [hp, hq]
  simp [go_sem, Result.andThen, c0, c1, c2, c3, c4, c5, c6, c7]
theorem RQ.set8 {R : Nat} {tA : Option Addr} {c : Nat} {all : List Tok} {e : Int} {w : World} {k : Nat} {fa fc : Int} (h : RQ R tA c all e w k fa fc) {B : Nat} (hB : B ≠ R) (hg : ∀ g, tA = some ⟨g, 0, none⟩ → all ≠ [] → g ≠ B) (m : MI) : RQ R tA c all e (Proofs.set8 w B m) k fa fc :=
  ⟨(set8_other w B m (fun e => hB e.symm)).trans h.blk, by
    rcases h.rt with h0 | ⟨g, e1, r, n⟩
    · exact .inl h0
    · by_cases h0 : all = []
      · exact .inl h0
      · refine .inr ⟨g, e1, fun j x hj => ?_, n⟩
        have hc : ∀ i, (Proofs.set8 w B m).cell? ⟨g, i, none⟩ = w.cell? ⟨g, i, none⟩ := fun i => by simp only [World.cell?, set8_other w B m (hg g e1 h0)]
        obtain ⟨a0, a1, a2, a3, a4, a5⟩ := r j x hj
        exact ⟨(hc _).trans a0, (hc _).trans a1, (hc _).trans a2, (hc _).trans a3, (hc _).trans a4, (hc _).trans a5⟩, h.kle, h.good, h.len⟩
theorem RQ.glt {R : Nat} {tA : Option Addr} {c : Nat} {all : List Tok} {e : Int} {w : World} {k : Nat} {fa fc : Int} (h : RQ R tA c all e w k fa fc) : ∀ g, tA = some ⟨g, 0, none⟩ → all ≠ [] → g < w.heap.size := fun g e0 h0 => by
  obtain ⟨g', e1, r, n⟩ := h.rt.resolve_left h0
  rw [e0] at e1
  obtain rfl : g = g' := by simpa using e1
  cases all with
  | nil => exact absurd rfl h0
  | cons t r' =>
    obtain ⟨o, ho, _⟩ := cells_of_cell (r 0 t rfl).1
    exact (Array.getElem?_eq_some_iff.1 ho).1
/-- a reader, and an item's block beside it that lies behind a place -/
structure QI (R : Nat) (tA : Option Addr) (c : Nat) (all : List Tok) (e : Int) (w W : World) (k : Nat) (fa fc : Int) (m : MI) : Prop where
  mv : Mv w W R none
  rq : RQ R tA c all e W k fa fc
  ib : IB W w.heap.size m
  Rlt : R < w.heap.size
  glt : ∀ g, tA = some ⟨g, 0, none⟩ → all ≠ [] → g < w.heap.size
theorem QI.start {R : Nat} {tA : Option Addr} {c : Nat} {all : List Tok} {e : Int} {w : World} {k : Nat} {fa fc : Int} (h : RQ R tA c all e w k fa fc) (m : MI) : QI R tA c all e w (w.alloc (.cells (mi1 m).toArray 58)) k fa fc m :=
  ⟨(Mv.refl w R none).alloc _, h.after ((Below.refl _ w).alloc (Nat.le_refl _) _), IB.new w m, h.lt, h.glt⟩
theorem QI.grown {R : Nat} {tA : Option Addr} {c : Nat} {all : List Tok} {e : Int} {w W W' : World} {k : Nat} {fa fc : Int} {m : MI} (h : QI R tA c all e w W k fa fc m) (g : Below W.heap.size W W') : QI R tA c all e w W' k fa fc m :=
  ⟨h.mv.and (Mv.of_below g), h.rq.after g, h.ib.same (g.block _ h.ib.lt), h.Rlt, h.glt⟩
theorem QI.next {R : Nat} {tA : Option Addr} {c : Nat} {all : List Tok} {e : Int} {w W W' : World} {k k' : Nat} {fa fc fa' fc' : Int} {m : MI} (h : QI R tA c all e w W k fa fc m) (g : Mv W W' R none) (r : RQ R tA c all e W' k' fa' fc') : QI R tA c all e w W' k' fa' fc' m :=
  ⟨h.mv.and g, r, h.ib.mv g (by have := h.Rlt; omega) (by simp), h.Rlt, h.glt⟩
theorem QI.setk {R : Nat} {tA : Option Addr} {c : Nat} {all : List Tok} {e : Int} {w W : World} {k : Nat} {fa fc : Int} {m : MI} (h : QI R tA c all e w W k fa fc m) (hk : k < all.length) : QI R tA c all e w (W.setCell ⟨R, 1, none⟩ (.int .i64 ((k : Int) + 1))) (k + 1) fa fc m :=
  h.next ((Mv.refl W R none).set (.inr rfl) _ _) (h.rq.setk hk)
theorem QI.tell {R : Nat} {tA : Option Addr} {c : Nat} {all : List Tok} {e : Int} {w W : World} {k : Nat} {fa fc : Int} {m : MI} (h : QI R tA c all e w W k fa fc m) (m' : MI) : IB (Proofs.set8 W w.heap.size m') w.heap.size m' ∧ Mv w (Proofs.set8 W w.heap.size m') R none ∧ RQ R tA c all e (Proofs.set8 W w.heap.size m') k fa fc :=
  ⟨h.ib.set m', h.mv.set8 (Nat.le_refl _) m', h.rq.set8 (by have := h.Rlt; omega) (fun g e0 h0 => by have := h.glt g e0 h0; omega) m'⟩
theorem QI.tellD {R : Nat} {tA : Option Addr} {c : Nat} {all : List Tok} {e : Int} {w W : World} {k : Nat} {fa fc : Int} {m : MI} (h : QI R tA c all e w W k fa fc m) (m' : MI) : IB (Proofs.set8 W w.heap.size m').drew w.heap.size m' ∧ Mv w (Proofs.set8 W w.heap.size m').drew R none ∧ RQ R tA c all e (Proofs.set8 W w.heap.size m').drew k fa fc := by
  obtain ⟨h1, h2, h3⟩ := h.tell m'
  have hg := (Grown.refl (Proofs.set8 W w.heap.size m')).drew
  exact ⟨h1.same (hg.below.block _ h1.lt), h2.and (hg.mv R), h3.grown hg⟩
def nmI (k : Int) (t : ByteArray) : MI := ⟨k, 0, t, none, 0, 0, 0, 0, false, 0⟩
set_option maxHeartbeats 2000000 in
theorem qname_no {R : Nat} {tA : Option Addr} {c : Nat} {all : List Tok} {e : Int} {w : World} {k : Nat} {fa fc : Int} (h : RQ R tA c all e w k fa fc) {N : Int} (hN : nxt (all.drop k) = N) (h36 : N ≠ 36) (h58 : N ≠ 58) :
    Calls Tryz.prog 106 #[.pointer (some ⟨R, 0, none⟩)] w fun x w' => x = .returned (.tuple #[mia noI, .bool false]) ∧ Mv w w' R none ∧ RQ R tA c all e w' k fa fc := by
  have H : Hid (QI R tA c all e w (w.alloc (.cells (mi1 noI).toArray 58)) k fa fc noI ∧ nxt (all.drop k) = N) := ⟨QI.start h noI, hN⟩
  have e1 : (N == 36) = false := by simpa using h36
  have e2 : (N == 58) = false := by simpa using h58
  clear h hN h36 h58
  go_enter Tryz.func106, Tryz.ntmps106
  go_wp2_with fail
  refine (qnames_any H.out.1.rq 36 (by decide) _ rfl H.out.2).mono ?_
  rintro x w1 ⟨rfl, hg⟩
  have H1 : Hid (QI R tA c all e w w1 k fa fc noI) := H.out.1.grown hg.below
  clear hg
  rw [show ((UInt8.toNat 36 : Nat) : Int) = 36 from rfl, e1]
  go_wp2_with fail
  refine (qnames_any H1.out.rq 58 (by decide) _ rfl H.out.2).mono ?_
  rintro x w2 ⟨rfl, hg⟩
  have H2 : Hid (QI R tA c all e w w2 k fa fc noI) := H1.out.grown hg.below
  clear hg H1
  rw [show ((UInt8.toNat 58 : Nat) : Int) = 58 from rfl, e2]
  obtain ⟨c0, c1, c2, c3, c4, c5, c6, c7⟩ := H2.out.ib.cells
  obtain ⟨f0, f1, f2, f3, f4, f5, f6, f7⟩ := H2.out.ib.frozen
  go_wp2
  obtain ⟨k1, k2, k3⟩ := H2.out.tell noI
  exact ret_it2 rfl rfl rfl k1 ⟨rfl, k2, k3⟩
set_option maxHeartbeats 4000000 in
theorem qname_var {R : Nat} {tA : Option Addr} {c : Nat} {all : List Tok} {e : Int} {w : World} {k : Nat} {fa fc : Int} (h : RQ R tA c all e w k fa fc) {t : Tok} {r : List Tok} (hd : all.drop k = t :: r) (h36 : which t = 36) :
    Calls Tryz.prog 106 #[.pointer (some ⟨R, 0, none⟩)] w fun x w' => x = .returned (.tuple #[mia (nmI 2 (bareN t)), .bool true]) ∧ Mv w w' R none ∧ RQ R tA c all e w' (k + 1) fa fc := by
  have hN : nxt (all.drop k) = 36 := by rw [hd]; exact h36
  have H : Hid (QI R tA c all e w (w.alloc (.cells (mi1 noI).toArray 58)) k fa fc noI ∧ nxt (all.drop k) = 36 ∧ RQ R tA c all e w k fa fc) := ⟨QI.start h noI, hN, h⟩
  obtain ⟨hlt, hdr, hgu, g, rfl, hgR, hcell⟩ := h.tok hd
  have hlen := h.len
  have hk2 : t.k = 2 := by
    have := hgu.1.2
    unfold which at h36
    split at h36
    · assumption
    · omega
  obtain ⟨s1, s2, -⟩ := hgu.1.1 hk2
  have HB : Hid (bareN t = t.t.extract 1 t.t.size) := by
    show _ = _
    unfold bareN
    rw [h36]; rfl
  have HT : Hid (∀ w', CK w w' → w'.cell? ⟨g, k * 6 + 4, none⟩ = some (.string t.t)) := fun w' ck => (hcell w' ck).2.2.2.1
  have s1' : (1 : Int) ≤ (t.t.size : Int) := by omega
  clear h hd h36 hN hdr hgu hcell hk2
  go_enter Tryz.func106, Tryz.ntmps106
  go_wp2_with fail
  refine (qnames_any H.out.1.rq 36 (by decide) _ rfl H.out.2.1).mono ?_
  rintro x w1 ⟨rfl, hg⟩
  have H1 : Hid (QI R (some ⟨g, 0, none⟩) c all e w w1 k fa fc noI ∧ CK w w1) := ⟨H.out.1.grown hg.below, (ck_below ((Below.refl _ w).alloc (Nat.le_refl _) _)).trans hg.ck⟩
  clear hg
  rw [show ((UInt8.toNat 36 : Nat) : Int) = 36 from rfl]
  obtain ⟨r0, r1, -, -, -⟩ := H1.out.1.rq.cells
  have fr := H1.out.1.rq.frozen 1
  have t4 := HT.out w1 H1.out.2
  obtain ⟨c0, c1, c2, c3, c4, c5, c6, c7⟩ := H1.out.1.ib.cells
  obtain ⟨f0, f1, f2, f3, f4, f5, f6, f7⟩ := H1.out.1.ib.frozen
  go_wp2
  have H2 : Hid (QI R (some ⟨g, 0, none⟩) c all e w (w1.setCell ⟨R, 1, none⟩ (.int .i64 ((k : Int) + 1))) (k + 1) fa fc noI) := H1.out.1.setk hlt
  have t5 : (w1.setCell ⟨R, 1, none⟩ (.int .i64 ((k : Int) + 1))).cell? ⟨g, k * 6 + 4, none⟩ = some (.string t.t) := by
    simp only [World.cell?, heap_set_other w1 hgR]
    exact t4
  generalize w1.setCell ⟨R, 1, none⟩ (.int .i64 ((k : Int) + 1)) = W2 at H2 t5 ⊢
  clear H1 r0 r1 fr t4 c0 c1 c2 c3 c4 c5 c6 c7 f0 f1 f2 f3 f4 f5 f6 f7
  obtain ⟨r0, r1, -, -, -⟩ := H2.out.rq.cells
  obtain ⟨c0, c1, c2, c3, c4, c5, c6, c7⟩ := H2.out.ib.cells
  obtain ⟨f0, f1, f2, f3, f4, f5, f6, f7⟩ := H2.out.ib.frozen
  go_region
  all_goals go_wp2
  all_goals
    rw [HB.out]
    obtain ⟨k1, k2, k3⟩ := H2.out.tellD (nmI 2 (t.t.extract 1 t.t.size))
    exact ret_it2 rfl rfl rfl k1 ⟨rfl, k2, k3⟩
set_option maxHeartbeats 4000000 in
theorem qname_class {R : Nat} {tA : Option Addr} {c : Nat} {all : List Tok} {e : Int} {w : World} {k : Nat} {fa fc : Int} (h : RQ R tA c all e w k fa fc) {t : Tok} {r : List Tok} (hd : all.drop k = t :: r) (h58 : which t = 58) :
    Calls Tryz.prog 106 #[.pointer (some ⟨R, 0, none⟩)] w fun x w' => x = .returned (.tuple #[mia (nmI 3 (bareN t)), .bool true]) ∧ Mv w w' R none ∧ RQ R tA c all e w' (k + 1) fa fc := by
  obtain ⟨N, hN58⟩ : ∃ N : Int, N = 58 := ⟨_, rfl⟩
  have hN : nxt (all.drop k) = N := by rw [hd, hN58]; exact h58
  have e1 : (N == 36) = false := by rw [hN58]; rfl
  have e2 : (N == 58) = true := by rw [hN58]; rfl
  have H : Hid (QI R tA c all e w (w.alloc (.cells (mi1 noI).toArray 58)) k fa fc noI ∧ nxt (all.drop k) = N) := ⟨QI.start h noI, hN⟩
  obtain ⟨hlt, hdr, hgu, g, rfl, hgR, hcell⟩ := h.tok hd
  have hlen := h.len
  have hk2 : t.k = 2 := by
    have := hgu.1.2
    unfold which at h58
    split at h58
    · assumption
    · omega
  obtain ⟨s1, s2, s3⟩ := hgu.1.1 hk2
  have s4 : 2 ≤ t.t.size := s3 (by simpa [which, hk2] using h58)
  have HB : Hid (bareN t = t.t.extract 1 (t.t.size - 1)) := by
    show _ = _
    unfold bareN
    rw [h58]; rfl
  have HT : Hid (∀ w', CK w w' → w'.cell? ⟨g, k * 6 + 4, none⟩ = some (.string t.t)) := fun w' ck => (hcell w' ck).2.2.2.1
  have s1' : (1 : Int) ≤ (t.t.size : Int) := by omega
  have s2' : t.t.size ≤ 9223372036854775807 := s2
  have HS : Hid (((t.t.size : Int) - 1) = ((t.t.size - 1 : Nat) : Int)) := by
    show _ = _
    omega
  clear h hd h58 hN hN58 hdr hgu hcell hk2 s3 s2
  go_enter Tryz.func106, Tryz.ntmps106
  go_wp2_with fail
  refine (qnames_any H.out.1.rq 36 (by decide) _ rfl H.out.2).mono ?_
  rintro x w1 ⟨rfl, hg⟩
  have H1 : Hid (QI R (some ⟨g, 0, none⟩) c all e w w1 k fa fc noI ∧ CK w w1) := ⟨H.out.1.grown hg.below, (ck_below ((Below.refl _ w).alloc (Nat.le_refl _) _)).trans hg.ck⟩
  clear hg
  rw [show ((UInt8.toNat 36 : Nat) : Int) = 36 from rfl, e1]
  go_wp2_with fail
  refine (qnames_any H1.out.1.rq 58 (by decide) _ rfl H.out.2).mono ?_
  rintro x w2 ⟨rfl, hg⟩
  have H2 : Hid (QI R (some ⟨g, 0, none⟩) c all e w w2 k fa fc noI ∧ CK w w2) := ⟨H1.out.1.grown hg.below, H1.out.2.trans hg.ck⟩
  clear hg H1
  rw [show ((UInt8.toNat 58 : Nat) : Int) = 58 from rfl, e2]
  obtain ⟨r0, r1, -, -, -⟩ := H2.out.1.rq.cells
  have fr := H2.out.1.rq.frozen 1
  have t4 := HT.out w2 H2.out.2
  obtain ⟨c0, c1, c2, c3, c4, c5, c6, c7⟩ := H2.out.1.ib.cells
  obtain ⟨f0, f1, f2, f3, f4, f5, f6, f7⟩ := H2.out.1.ib.frozen
  go_wp2
  go_quiet (fail)
  have H3 : Hid (QI R (some ⟨g, 0, none⟩) c all e w (w2.drewN nq) k fa fc noI) := H2.out.1.grown ((Grown.refl w2).drewN nq).below
  generalize w2.drewN nq = W at H3 ⊢
  clear H2 r0 r1 fr t4 c0 c1 c2 c3 c4 c5 c6 c7 f0 f1 f2 f3 f4 f5 f6 f7
  have H4 : Hid (QI R (some ⟨g, 0, none⟩) c all e w (W.setCell ⟨R, 1, none⟩ (.int .i64 ((k : Int) + 1))) (k + 1) fa fc noI) := H3.out.setk hlt
  obtain ⟨r0, r1, -, -, -⟩ := H3.out.rq.cells
  have fr := H3.out.rq.frozen 1
  have hRne : ¬ w.heap.size = R := by have := H3.out.Rlt; omega
  have hRne' : ¬ R = w.heap.size := by have := H3.out.Rlt; omega
  obtain ⟨c0, c1, c2, c3, c4, c5, c6, c7⟩ := H3.out.ib.cells
  obtain ⟨f0, f1, f2, f3, f4, f5, f6, f7⟩ := H3.out.ib.frozen
  have hsl : ((t.t.size : Int) - 1) = ((t.t.size - 1 : Nat) : Int) := by omega
  have hwr : wrap64 ((t.t.size - 1 : Nat) : Int) = ((t.t.size - 1 : Nat) : Int) := IntWalk.wrap64_in _ (by omega)
  go_wp2
  rw [HB.out]
  obtain ⟨k1, k2, k3⟩ := H4.out.tell (nmI 3 (t.t.extract 1 (t.t.size - 1)))
  exact ret_it2 rfl rfl rfl k1 ⟨rfl, k2, k3⟩
/-- an item begins here -/
def begQ (N : Int) : Bool := Nat.testBit 62 (begun N)
theorem begQ_yes {N : Int} (h : N = 1 ∨ N = 36 ∨ N = 58 ∨ N = 17 ∨ N = 18) : begQ N = true := by
  rcases h with rfl | rfl | rfl | rfl | rfl <;> decide
theorem begQ_no {N : Int} (h1 : N ≠ 1) (h2 : N ≠ 36) (h3 : N ≠ 58) (h4 : N ≠ 17) (h5 : N ≠ 18) : begQ N = false := by
  unfold begQ begun
  rw [if_neg h1, if_neg h2, if_neg h3, if_neg h4, if_neg h5]
  split <;> decide
set_option maxHeartbeats 4000000 in
theorem qbegins_any {R : Nat} {tA : Option Addr} {c : Nat} {all : List Tok} {e : Int} {w : World} {k : Nat} {fa fc : Int} (h : RQ R tA c all e w k fa fc) {N : Int} (hN : nxt (all.drop k) = N) :
    Calls Tryz.prog 109 #[.pointer (some ⟨R, 0, none⟩)] w fun x w' => x = .returned (.bool (begQ N)) ∧ Grown w w' := by
  obtain ⟨K, hK⟩ : ∃ K, kd (all.drop k) = K := ⟨_, rfl⟩
  obtain ⟨q1, -, q3, -⟩ := nxt_kd (h.goodD k)
  rw [hN, hK] at q1 q3
  have q17 := q3 7 (by omega)
  have q18 := q3 8 (by omega)
  have H : Hid (RQ R tA c all e w k fa fc ∧ nxt (all.drop k) = N ∧ kd (all.drop k) = K) := ⟨h, hN, hK⟩
  clear h hN hK q3
  go_enter Tryz.func109, Tryz.ntmps109
  go_wp2_with fail
  refine (kind_any H.out.1).mono ?_
  rintro x w1 ⟨rfl, hg⟩
  rw [H.out.2.2]
  have HG : Hid (Grown w w1) := hg
  clear hg
  by_cases h1 : N = 1
  · have HB : Hid (begQ N = true) := begQ_yes (.inl h1)
    have e1 : (K == 1) = true := by simpa using q1.1 h1
    clear q1 q17 q18 h1
    go_wp2
    go_ret
    exact ⟨by rw [HB.out]; rfl, HG.out⟩
  have e1 : (K == 1) = false := by simpa using fun e => h1 (q1.2 e)
  go_wp2_with fail
  refine (qnames_any (H.out.1.grown HG.out) 36 (by decide) _ rfl H.out.2.1).mono ?_
  rintro x w2 ⟨rfl, hg⟩
  have HG2 : Hid (Grown w w2) := HG.out.trans hg
  clear hg HG
  rw [show ((UInt8.toNat 36 : Nat) : Int) = 36 from rfl]
  by_cases h2 : N = 36
  · have HB : Hid (begQ N = true) := begQ_yes (.inr (.inl h2))
    have e2 : (N == 36) = true := by simpa using h2
    clear q1 q17 q18 h1 h2
    go_wp2
    go_ret
    exact ⟨by rw [HB.out]; rfl, HG2.out⟩
  have e2 : (N == 36) = false := by simpa using h2
  rw [e2]
  go_wp2_with fail
  refine (qnames_any (H.out.1.grown HG2.out) 58 (by decide) _ rfl H.out.2.1).mono ?_
  rintro x w3 ⟨rfl, hg⟩
  have HG3 : Hid (Grown w w3) := HG2.out.trans hg
  clear hg HG2
  rw [show ((UInt8.toNat 58 : Nat) : Int) = 58 from rfl]
  by_cases h3 : N = 58
  · have HB : Hid (begQ N = true) := begQ_yes (.inr (.inr (.inl h3)))
    have e3 : (N == 58) = true := by simpa using h3
    rw [e3]
    clear q1 q17 q18 h1 h2 h3
    go_wp2
    go_ret
    exact ⟨by rw [HB.out]; rfl, HG3.out⟩
  have e3 : (N == 58) = false := by simpa using h3
  rw [e3]
  go_wp2_with fail
  refine (is_any (H.out.1.grown HG3.out) 7 (by omega) _ rfl H.out.2.2).mono ?_
  rintro x w4 ⟨rfl, hg⟩
  have HG4 : Hid (Grown w w4) := HG3.out.trans hg
  clear hg HG3
  by_cases h4 : N = 17
  · have HB : Hid (begQ N = true) := begQ_yes (.inr (.inr (.inr (.inl h4))))
    have e4 : (K == 10 + ((7 : Nat) : Int)) = true := by simpa using q17.1 (by omega)
    rw [e4]
    clear q1 q17 q18 h1 h2 h3 h4 e4
    go_wp2
    go_ret
    exact ⟨by rw [HB.out]; rfl, HG4.out⟩
  have e4 : (K == 10 + ((7 : Nat) : Int)) = false := by simpa using fun e => h4 (by have := q17.2 (by omega); omega)
  rw [e4]
  go_wp2_with fail
  refine (is_any (H.out.1.grown HG4.out) 8 (by omega) _ rfl H.out.2.2).mono ?_
  rintro x w5 ⟨rfl, hg⟩
  have HG5 : Hid (Grown w w5) := HG4.out.trans hg
  clear hg HG4 e4
  by_cases h5 : N = 18
  · have HB : Hid (begQ N = true) := begQ_yes (.inr (.inr (.inr (.inr h5))))
    have e5 : (K == 10 + ((8 : Nat) : Int)) = true := by simpa using q18.1 (by omega)
    rw [e5]
    clear q1 q17 q18 h1 h2 h3 h4 h5 e5
    go_wp2
    go_ret
    exact ⟨by rw [HB.out]; rfl, HG5.out⟩
  have e5 : (K == 10 + ((8 : Nat) : Int)) = false := by simpa using fun e => h5 (by have := q18.2 (by omega); omega)
  rw [e5]
  have HB : Hid (begQ N = false) := begQ_no h1 h2 h3 h4 h5
  clear q1 q17 q18 h1 h2 h3 h4 h5 e5
  go_wp2
  go_ret
  exact ⟨by rw [HB.out]; rfl, HG5.out⟩
end Go.Proofs
