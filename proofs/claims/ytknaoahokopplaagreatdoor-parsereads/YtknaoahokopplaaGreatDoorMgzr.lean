/-
  Several texts in one (Ytr Yvr Yjr).
-/
import Derived.Test.YtknaoahokopplaaGreatDoorYir
import Derived.Deep.AppendLies
namespace Go.Proofs
open Go.RowKit Go.Shelf

set_option maxRecDepth 100000
attribute [local go_sem] Oper.semAt_some

def ShL (v : Value) : Prop := ∃ m, v = mla m
/-- the reader, the result's block and the line's own block B -/
structure LQ (R : Nat) (tA : Option Addr) (c : Nat) (all : List Tok) (e : Int) (w W : World) (k : Nat) (fa fc : Int) (B : Nat) (m : ML) : Prop where
  mv : Mv w W R none
  rq : RQ R tA c all e W k fa fc
  res : LB W w.heap.size noL
  own : LB W B m
  Rlt : R < w.heap.size
  glt : ∀ g, tA = some ⟨g, 0, none⟩ → all ≠ [] → g < w.heap.size
  Bgt : w.heap.size < B
theorem LQ.next {R : Nat} {tA : Option Addr} {c : Nat} {all : List Tok} {e : Int} {w W W' : World} {k k' : Nat} {fa fc fa' fc' : Int} {B : Nat} {m : ML} (h : LQ R tA c all e w W k fa fc B m) (hm : Mv W W' R none) (hr : RQ R tA c all e W' k' fa' fc') : LQ R tA c all e w W' k' fa' fc' B m :=
  ⟨h.mv.and hm, hr, h.res.mv hm (by have := h.Rlt; omega) (by simp), h.own.mv hm (by have := h.Rlt; have := h.Bgt; omega) (by simp), h.Rlt, h.glt, h.Bgt⟩
theorem LQ.grown {R : Nat} {tA : Option Addr} {c : Nat} {all : List Tok} {e : Int} {w W W' : World} {k : Nat} {fa fc : Int} {B : Nat} {m : ML} (h : LQ R tA c all e w W k fa fc B m) (hb : Below W.heap.size W W') : LQ R tA c all e w W' k fa fc B m := h.next (Mv.of_below hb) (h.rq.after hb)
theorem LQ.allocs {R : Nat} {tA : Option Addr} {c : Nat} {all : List Tok} {e : Int} {w W : World} {k : Nat} {fa fc : Int} {B : Nat} {m : ML} (h : LQ R tA c all e w W k fa fc B m) (o : Obj) : LQ R tA c all e w (W.alloc o) k fa fc B m := h.grown ((Below.refl _ W).alloc (Nat.le_refl _) o)
/-- a cell of the line's own block -/
theorem LQ.put {R : Nat} {tA : Option Addr} {c : Nat} {all : List Tok} {e : Int} {w W : World} {k : Nat} {fa fc : Int} {B : Nat} {m m' : ML} (h : LQ R tA c all e w W k fa fc B m) (j : Nat) (v : Value) (hv : (ml1 m).toArray.setIfInBounds j v = (ml1 m').toArray) : LQ R tA c all e w (W.setCell ⟨B, j, none⟩ v) k fa fc B m' :=
  ⟨h.mv.set (.inl (by have := h.Bgt; omega)) _ _, h.rq.low (N := w.heap.size) h.Rlt h.glt (fun b hb => heap_set_other _ (by have := h.Bgt; omega) _ _), h.res.same (heap_set_other _ (by have := h.Bgt; omega) _ _), h.own.put j v hv, h.Rlt, h.glt, h.Bgt⟩
/-- the reader goes on by one token -/
theorem LQ.setk {R : Nat} {tA : Option Addr} {c : Nat} {all : List Tok} {e : Int} {w W : World} {k : Nat} {fa fc : Int} {B : Nat} {m : ML} (h : LQ R tA c all e w W k fa fc B m) (hk : k < all.length) : LQ R tA c all e w (W.setCell ⟨R, 1, none⟩ (.int .i64 ((k : Int) + 1))) (k + 1) fa fc B m :=
  ⟨h.mv.set (.inr rfl) _ _, h.rq.setk hk, h.res.same (heap_set_other _ (by have := h.Rlt; omega) _ _), h.own.same (heap_set_other _ (by have := h.Rlt; have := h.Bgt; omega) _ _), h.Rlt, h.glt, h.Bgt⟩
theorem LQ.tell {R : Nat} {tA : Option Addr} {c : Nat} {all : List Tok} {e : Int} {w W : World} {k : Nat} {fa fc : Int} {B : Nat} {m : ML} (h : LQ R tA c all e w W k fa fc B m) (m' : ML) : LB (set10 W w.heap.size m') w.heap.size m' ∧ Mv w (set10 W w.heap.size m') R none ∧ RQ R tA c all e (set10 W w.heap.size m') k fa fc :=
  ⟨h.res.set m', h.mv.set10 (Nat.le_refl _) m', h.rq.low (N := w.heap.size) h.Rlt h.glt (fun b hb => set10_other _ _ _ (by omega))⟩
theorem LQ.start {R : Nat} {tA : Option Addr} {c : Nat} {all : List Tok} {e : Int} {w : World} {k : Nat} {fa fc : Int} (h : RQ R tA c all e w k fa fc) (m : ML) : LQ R tA c all e w ((w.alloc (.cells (ml1 noL).toArray 44)).alloc (.cells (ml1 m).toArray 44)).drew k fa fc (w.heap.size + 1) m := by
  have hb : Below w.heap.size w ((w.alloc (.cells (ml1 noL).toArray 44)).alloc (.cells (ml1 m).toArray 44)).drew := (((Below.refl _ w).alloc (Nat.le_refl _) _).alloc (by simp) _).drew
  refine ⟨Mv.of_below hb, h.after hb, ?_, ?_, h.lt, h.glt, by omega⟩
  · exact (LB.new w noL).allocs _
  · have := LB.new (w.alloc (.cells (ml1 noL).toArray 44)) m
    rw [World.size_alloc] at this
    exact this
/-- a fault is noted: the line is of no use any more -/
def BadL (R : Nat) (tA : Option Addr) (c : Nat) (all : List Tok) (e : Int) (w : World) (S : Res Ln) (B : Nat) (W : World) : Prop := ∃ k fa fc m, LQ R tA c all e w W k fa fc B m ∧ fc ≠ 0 ∧ S = .no fa fc
theorem wF_zero (b : Bool) (x : Int) : wF b 0 x 0 = if b then 0 else x := by cases b <;> rfl
end Go.Proofs
namespace Go.Proofs
open Go.RowKit Go.Shelf

set_option maxRecDepth 100000
attribute [local go_sem] Oper.semAt_some
theorem line_then (e : Int) {t : Tok} {r : List Tok} (h : which t = 116) : lineT e (t :: r) = (wantT e 11 r).bind fun _ r2 => .ok ⟨3, t.a, ⟨#[]⟩, false, false, [], [], [], [], 0⟩ r2 := by
  unfold lineT
  rw [someT, if_pos h]
  rfl
theorem LR.none (w : World) (b : Nat) (k a : Int) (t : ByteArray) : LR 3 w b none ⟨k, a, t, false, false, noS, noS, noS, noS, 0⟩ ⟨k, a, t, false, false, [], [], [], [], 0⟩ :=
  ⟨⟨rfl, rfl, rfl, rfl, rfl, rfl⟩, RowsS.nil _ _ _ _, RowsS.nil _ _ _ _, RowsS.nil _ _ _ _, RowsS.nil _ _ _ _⟩
set_option maxHeartbeats 4000000 in
theorem qline_then {R : Nat} {tA : Option Addr} {c : Nat} {all : List Tok} {e : Int} {w : World} {k : Nat} (h : RQ R tA c all e w k 0 0) {t : Tok} {r : List Tok} (hd : all.drop k = t :: r) (h116 : which t = 116) :
    Calls Tryz.prog 30 #[.pointer (some ⟨R, 0, none⟩)] w (OutQ R tA c all e w (VL 3 w.heap.size) ShL (lineT e (all.drop k))) := by
  obtain ⟨hlt, hdr, hgu, g, rfl, hgR, hcell⟩ := h.tok hd
  have hlen := h.len
  obtain ⟨r0, r1, -, -, -⟩ := h.cells
  have t1 := (hcell w (fun _ _ q => q)).2.1
  have r0' := fun o => cell_up r0 o
  have r1' := fun o => cell_up r1 o
  have t1' := fun o => cell_up t1 o
  have r0'' := fun o o2 => cell_up (cell_up r0 o) o2
  have r1'' := fun o o2 => cell_up (cell_up r1 o) o2
  have t1'' := fun o o2 => cell_up (cell_up t1 o) o2
  obtain ⟨K, hK⟩ : ∃ K, kd (all.drop (k + 1)) = K := ⟨_, rfl⟩
  have q1 := (h.nk (k + 1) rfl hK).2.2 1 (by omega)
  rw [hdr] at q1
  have H : Hid (LQ R (some ⟨g, 0, none⟩) c all e w ((w.alloc (.cells (ml1 noL).toArray 44)).alloc (.cells (ml1 ⟨2, t.a, ⟨#[]⟩, false, false, noS, noS, noS, noS, 0⟩).toArray 44)).drew k 0 0 (w.heap.size + 1) ⟨2, t.a, ⟨#[]⟩, false, false, noS, noS, noS, noS, 0⟩) := LQ.start h _
  have HN : Hid (nxt (all.drop k) = 116 ∧ kd (all.drop (k + 1)) = K ∧ lineT e (all.drop k) = ((wantT e 11 r).bind fun _ r2 => .ok ⟨3, t.a, ⟨#[]⟩, false, false, [], [], [], [], 0⟩ r2) ∧ all.drop (k + 1) = r ∧ (nxt r = 10 + ((1 : Nat) : Int) ↔ K = 10 + ((1 : Nat) : Int))) := ⟨by rw [hd]; exact h116, hK, by rw [hd]; exact line_then e h116, hdr, q1⟩
  generalize t.a = ta at *
  clear h hd h116 hdr hgu hcell hK q1
  go_enter Tryz.func30, Tryz.ntmps30
  go_wp2_with fail
  go_region
  all_goals go_wp2_with fail
  clear r0 r1 t1 r0' r1' t1' r0'' r1'' t1''
  refine (qnames_any H.out.rq 116 (by decide) _ rfl HN.out.1).mono ?_
  rintro x w1 ⟨rfl, hg⟩
  have H1 : Hid (LQ R (some ⟨g, 0, none⟩) c all e w w1 k 0 0 (w.heap.size + 1) ⟨2, ta, ⟨#[]⟩, false, false, noS, noS, noS, noS, 0⟩) := H.out.grown hg.below
  clear hg H
  rw [show ((UInt8.toNat 116 : Nat) : Int) = 116 from rfl]
  obtain ⟨r0, r1, -, -, -⟩ := H1.out.rq.cells
  have fr := H1.out.rq.frozen 1
  have H2 := H1.out.setk hlt
  obtain ⟨c0, c1, c2, c3, c4, c5, c6, c7, c8, c9⟩ := H2.own.cells
  obtain ⟨f0, f1, f2, f3, f4, f5, f6, f7, f8, f9⟩ := H2.own.frozen
  have H3 : Hid (LQ R (some ⟨g, 0, none⟩) c all e w ((w1.setCell ⟨R, 1, none⟩ (.int .i64 ((k : Int) + 1))).setCell ⟨w.heap.size + 1, 0, none⟩ (.int .i64 3)) (k + 1) 0 0 (w.heap.size + 1) ⟨3, ta, ⟨#[]⟩, false, false, noS, noS, noS, noS, 0⟩) := H2.put 0 _ rfl
  clear H2
  go_wp2_with fail
  refine (qwant_any H3.out.rq 1 (by omega) _ rfl HN.out.2.1 rfl).mono ?_
  rintro x w2 ⟨rfl, hm, hr⟩
  rw [wF_zero, wF_zero] at hr
  have hr2 := H3.out.next hm hr
  clear hm hr r0 r1 fr c0 c1 c2 c3 c4 c5 c6 c7 c8 c9 f0 f1 f2 f3 f4 f5 f6 f7 f8 f9 H1 H3
  by_cases hK : K = 10 + ((1 : Nat) : Int)
  · have e1 : (K == 10 + ((1 : Nat) : Int)) = true := by simpa using hK
    rw [tkk, e1, if_pos rfl, if_pos rfl] at hr2
    have H4 : Hid (LQ R (some ⟨g, 0, none⟩) c all e w w2 (k + 2) 0 0 (w.heap.size + 1) ⟨3, ta, ⟨#[]⟩, false, false, noS, noS, noS, noS, 0⟩) := hr2
    have HS : Hid (lineT e (all.drop k) = .ok ⟨3, ta, ⟨#[]⟩, false, false, [], [], [], [], 0⟩ r.tail ∧ all.drop (k + 2) = r.tail) := by
      refine ⟨?_, by rw [← HN.out.2.2.2.1, List.tail_drop]⟩
      rw [HN.out.2.2.1, wantT, if_pos (by have := HN.out.2.2.2.2.2 hK; omega)]
      rfl
    clear hr2 e1 hK
    obtain ⟨c0, c1, c2, c3, c4, c5, c6, c7, c8, c9⟩ := H4.out.own.cells
    obtain ⟨d0, d1, d2, d3, d4, d5, d6, d7, d8, d9⟩ := H4.out.res.cells
    obtain ⟨f0, f1, f2, f3, f4, f5, f6, f7, f8, f9⟩ := H4.out.res.frozen
    go_wp2
    obtain ⟨k1, k2, k3⟩ := H4.out.tell ⟨3, ta, ⟨#[]⟩, false, false, noS, noS, noS, noS, 0⟩
    refine ret_ln rfl rfl k1 ?_
    unfold OutQ
    rw [HS.out.1]
    exact ⟨k2, _, k + 2, rfl, ⟨_, rfl, LR.none _ _ _ _ _⟩, HS.out.2, k3⟩
  · have e1 : (K == 10 + ((1 : Nat) : Int)) = false := by simpa using hK
    rw [tkk, e1] at hr2
    have H4 : Hid (LQ R (some ⟨g, 0, none⟩) c all e w w2 (k + 1) (atOf e (all.drop (k + 1))) 50 (w.heap.size + 1) ⟨3, ta, ⟨#[]⟩, false, false, noS, noS, noS, noS, 0⟩) := hr2
    have HS : Hid (lineT e (all.drop k) = .no (atOf e (all.drop (k + 1))) 50) := by
      show _ = _
      rw [HN.out.2.2.1, wantT, if_neg (fun h => hK (HN.out.2.2.2.2.1 (by omega))), HN.out.2.2.2.1]
      rfl
    clear hr2 e1 hK
    obtain ⟨c0, c1, c2, c3, c4, c5, c6, c7, c8, c9⟩ := H4.out.own.cells
    obtain ⟨d0, d1, d2, d3, d4, d5, d6, d7, d8, d9⟩ := H4.out.res.cells
    obtain ⟨f0, f1, f2, f3, f4, f5, f6, f7, f8, f9⟩ := H4.out.res.frozen
    go_wp2
    obtain ⟨k1, k2, k3⟩ := H4.out.tell ⟨3, ta, ⟨#[]⟩, false, false, noS, noS, noS, noS, 0⟩
    refine ret_ln rfl rfl k1 ?_
    unfold OutQ
    rw [HS.out]
    exact ⟨k2, _, k + 1, rfl, ⟨_, rfl⟩, k3⟩
end Go.Proofs
namespace Go.Proofs
open Go.RowKit Go.Shelf

set_option maxRecDepth 100000
attribute [local go_sem] Oper.semAt_some

theorem hidm {p : Prop} (h : p) : Hid p := h
theorem step_G {ops : Array Oper} {o : Oper} {a : Act} {K : Act → World → Prop} {Q : Exit → Act → World → Prop} {E : Prop} {w : World} (hgd : o.guard = none) (s x : Operand)
    (ho : o.op = .call { callee := .builtin .append, args := #[s, x], argTypes := #[42, 42] })
    (b : Nat) (v : Value) (n : Nat) (ms : List MI) (hs : a.eval s = v) (hown : w.ownsRow b 58 8 v n (fi ms)) (g c : Nat) (m : MI) (hx : a.eval x = .slice (some ⟨g, 0, none⟩) 1 c)
    (hy : w.heap[g]? = some (.cells (mi1 m).toArray 58 (0, 0))) (hl : n + 1 ≤ 1000000) (hbase : b ≤ w.heap.size)
    (h : ∀ A c' w', w'.ownsRow b 58 8 (.slice A (n + 1) c') (n + 1) (fi (ms ++ [m])) → w.grownBy w' v.ownBlock → ((Value.slice A (n + 1) c').ownBlock = v.ownBlock ∨ (Value.slice A (n + 1) c').ownBlock = some w.heap.size) → K (a.put o.dst (.slice A (n + 1) c')) w') :
    if Region.wanted o (yielded ops a.tmps) = true then Oper.wp Tryz.prog o a w K Q else E := by
  obtain ⟨i0, hi, hz0, hz1, hz2⟩ := info_parts info50
  refine step_append_lies w hgd s x 42 ho b 58 i0 _ 8 88 Tryz.underlying42 hi hz0 hz1 hz2 rfl (by decide) v n (fi ms) hs hown ⟨g, 0, none⟩ 1 c (fi [m]) hx rfl ?_ (fi_one _) (by decide) (by unfold maxLen; omega) (by omega) hbase _ rfl (fun g' cap w' k2 k3 k5 _ => ?_)
  · intro j u hj
    have e : (fi [m]) = mi1 m := by simp [fi]
    rw [e] at hj
    rw [add_zero_at']
    simp only [World.cell?, hy]
    simpa using hj
  · refine h _ _ w' ?_ k3 ?_
    · rw [fi_append]
      exact k2
    · rcases k5 with h | h
      · exact .inl h.symm
      · exact .inr (by rw [h]; rfl)
/-- a row that has grown by an item that means something -/
theorem own_more {d b n : Nat} {w w' : World} {v : Value} {l : List It} {ms : List MI} {m : MI} {i : It} {A : Option Addr} {c' : Nat} (h2 : All2 (DR d w b v.ownBlock) ms l) (hm : DR d w b v.ownBlock m i) (hn : ms.length = n)
    (k2 : w'.ownsRow b 58 8 (.slice A (n + 1) c') (n + 1) (fi (ms ++ [m]))) (k3 : w.grownBy w' v.ownBlock) (k5 : (Value.slice A (n + 1) c').ownBlock = v.ownBlock ∨ (Value.slice A (n + 1) c').ownBlock = some w.heap.size) : OwnI d w' b (.slice A (n + 1) c') (l ++ [i]) := by
  refine ⟨ms ++ [m], ?_, ?_⟩
  · rw [List.length_append, hn]
    exact k2
  · have hst : ∀ k, k < w.heap.size → b ≤ k → some k ≠ v.ownBlock → w'.heap[k]? = w.heap[k]? := fun k q1 _ q3 => k3.block k q1 q3
    have hx' : (Value.slice A (n + 1) c').ownBlock = v.ownBlock ∨ (Value.slice A (n + 1) c').ownBlock = none ∨ ∀ g, (Value.slice A (n + 1) c').ownBlock = some g → w.heap.size ≤ g ∨ g < b := by
      rcases k5 with e | e
      · exact .inl e
      · exact .inr (.inr fun g e2 => .inl (by rw [e] at e2; have := Option.some.inj e2; omega))
    exact (h2.mono fun _ _ r => r.step (Nat.le_refl _) hx' hst).append ⟨hm.step (Nat.le_refl _) hx' hst, trivial⟩
theorem own_moreA {d b n : Nat} {w w' : World} (o : Obj) {v : Value} {l : List It} {ms : List MI} {m : MI} {i : It} {A : Option Addr} {c' : Nat} (k3 : (w.alloc o).grownBy w' v.ownBlock) (k2 : w'.ownsRow b 58 8 (.slice A (n + 1) c') (n + 1) (fi (ms ++ [m]))) (k5 : (Value.slice A (n + 1) c').ownBlock = v.ownBlock ∨ (Value.slice A (n + 1) c').ownBlock = some (w.alloc o).heap.size)
    (h2 : All2 (DR d w b v.ownBlock) ms l) (hm : DR d w b v.ownBlock m i) (hn : ms.length = n) : OwnI d w' b (.slice A (n + 1) c') (l ++ [i]) :=
  own_more (w := w.alloc o) (h2.mono fun _ _ q => q.step (Nat.le_refl _) (.inl rfl) (fun _ h1 _ _ => Below.heap_alloc _ _ _ h1)) (hm.step (Nat.le_refl _) (.inl rfl) (fun _ h1 _ _ => Below.heap_alloc _ _ _ h1)) hn k2 k3 k5
theorem QI.low {R : Nat} {tA : Option Addr} {c : Nat} {all : List Tok} {e : Int} {w W W' : World} {k : Nat} {fa fc : Int} {m : MI} (h : QI R tA c all e w W k fa fc m) (hm : Mv w W' R none) {N : Nat} (hN : w.heap.size < N) (hb : ∀ b, b < N → W'.heap[b]? = W.heap[b]?) : QI R tA c all e w W' k fa fc m :=
  ⟨hm, h.rq.low (by have := h.Rlt; omega) (fun g e0 h0 => by have := h.glt g e0 h0; omega) hb, h.ib.same (hb _ hN), h.Rlt, h.glt⟩
/-- a set's block and its parts' row, whatever the parts mean -/
structure SG (R : Nat) (tA : Option Addr) (c : Nat) (all : List Tok) (e : Int) (w W : World) (B : Nat) (nt : Bool) (k : Nat) (fa fc : Int) (A : Option Addr) (n cc : Nat) (ms : List MI) : Prop where
  qi : QI R tA c all e w W k fa fc noI
  ib : IB W B (seI nt A n cc)
  Bgt : w.heap.size < B
  row : W.ownsRow (B + 1) 58 8 (.slice A n cc) n (fi ms)
  len : ms.length = n
theorem SG.cell {R : Nat} {tA : Option Addr} {c : Nat} {all : List Tok} {e : Int} {w W : World} {B : Nat} {nt : Bool} {k : Nat} {fa fc : Int} {A : Option Addr} {n cc : Nat} {ms : List MI} (h : SG R tA c all e w W B nt k fa fc A n cc ms) : W.cell? ⟨B, 3, none⟩ = some (.slice A n cc) ∧ (∀ o, (W.alloc o).cell? ⟨B, 3, none⟩ = some (.slice A n cc)) := ⟨h.ib.cells.2.2.2.1, fun o => (h.ib.allocs o).cells.2.2.2.1⟩
/-- one item more in the row -/
theorem SG.more {R : Nat} {tA : Option Addr} {c : Nat} {all : List Tok} {e : Int} {w W W' : World} {B : Nat} {nt : Bool} {k : Nat} {fa fc : Int} {A : Option Addr} {n cc : Nat} {ms : List MI} (h : SG R tA c all e w W B nt k fa fc A n cc ms) (o : Obj) (hg : (W.alloc o).grownBy W' (Value.slice A n cc).ownBlock) {A' : Option Addr} {c' : Nat} {m : MI} (hO : W'.ownsRow (B + 1) 58 8 (.slice A' (n + 1) c') (n + 1) (fi (ms ++ [m]))) :
    W'.cell? ⟨B, 3, none⟩ = some (.slice A n cc) ∧ W'.frozen? ⟨B, 3, none⟩ = false ∧ SG R tA c all e w (W'.setCell ⟨B, 3, none⟩ (.slice A' (n + 1) c')) B nt k fa fc A' (n + 1) c' (ms ++ [m]) := by
  have hlo := h.row.lt
  have hBl := h.ib.lt
  have hb : ∀ b, b < B + 1 → W'.heap[b]? = W.heap[b]? := fun b hb => (hg.block b (by simp; omega) (fun e => by have := (hlo b e.symm).1; omega)).trans (Below.heap_alloc _ _ _ (by omega))
  have hib : IB W' B (seI nt A n cc) := h.ib.same (hb B (by omega))
  have hmv : Mv w W' R none := (h.qi.mv.alloc o).trans (Mv.of_grown hg) (.inr fun g e => by have := (hlo g e).1; have := h.Bgt; omega)
  have hqi : QI R tA c all e w W' k fa fc noI := h.qi.low hmv (N := B + 1) (by have := h.Bgt; omega) hb
  have hset : ∀ b, b < B → (W'.setCell ⟨B, 3, none⟩ (.slice A' (n + 1) c')).heap[b]? = W'.heap[b]? := fun b hb => heap_set_other _ (by omega) _ _
  refine ⟨hib.cells.2.2.2.1, hib.frozen.2.2.2.1, ?_, ?_, h.Bgt, ?_, by rw [List.length_append, h.len]; rfl⟩
  · exact hqi.low (hmv.set (.inl (by have := h.Bgt; omega)) _ _) h.Bgt hset
  · have := cells_setS (j := 3) (u := .slice A' (n + 1) c') hib
    simpa [IB, mi1] using this
  · refine ⟨hO.1, hO.2.imp id ?_⟩
    rintro ⟨g, cap, cur, e1, k1, k2, k3⟩
    exact ⟨g, cap, cur, e1, k1, (heap_set_other _ (by omega) _ _).trans k2, k3⟩
end Go.Proofs
