/-
  The reference's united: what lies where while a range grows.
-/
import Derived.Test.YtmgkolelcflcbaaDoorRg
import Derived.Test.YtmgkolelcflcbaaDoorVm
import Derived.Test.YtmgkolelcflcbaaDoorSa
namespace Go.Proofs
open Go.RowKit Go.Shelf

theorem blk_new {W : World} {ob : Obj} {n : Nat} (h : W.heap.size = n) : (W.alloc ob).heap[n]? = some ob := by subst h; exact Array.getElem?_push_size
theorem blk_up {W : World} {b : Nat} {o : Obj} (h : W.heap[b]? = some o) (ob : Obj) : (W.alloc ob).heap[b]? = some o := (((Below.refl _ W).alloc (Nat.le_refl _) ob).block b (Array.getElem?_eq_some_iff.1 h).1).trans h
theorem OwnR.far {W W' : World} {base : Nat} {v : Value} {l : List (Int × Int)} (h : OwnR W base v l) (hk : ∀ b, v.ownBlock = some b → W'.heap[b]? = W.heap[b]?) : OwnR W' base v l := by
  refine ⟨h.1, ?_⟩
  rcases h.2 with h0 | ⟨g, cap, cur, e, h1, h2, h3⟩
  · exact .inl h0
  · exact .inr ⟨g, cap, cur, e, h1, (hk g (by rw [e]; rfl)).trans h2, h3⟩
/-- the range that grows at p; what is left, what is out, what is far -/
structure US (w : World) (base p : Nat) (v3 v9 : Value) (left out : List (Int × Int)) (x : Int × Int) (v13 : Value) (rs : List (Int × Int)) (W : World) : Prop where
  bx : W.heap[p]? = some (.cells #[.int .i64 x.1, .int .i64 x.2] 38 (0, 0))
  l : OwnR W base v3 left
  o : OwnR W base v9 out
  r : OwnR W base v13 rs
  rp : v13.ownBlock ≠ some p
  rl : v13.ownBlock ≠ v3.ownBlock
  ro : v13.ownBlock ≠ v9.ownBlock
  lp : v3.ownBlock ≠ some p
  op : v9.ownBlock ≠ some p
  lo : v3.ownBlock ≠ v9.ownBlock
  b : Below base w W
  pb : base ≤ p
  le : base ≤ W.heap.size
section
variable {w W : World} {base p : Nat} {v3 v9 v13 : Value} {left out rs : List (Int × Int)} {x : Int × Int}
theorem own_lt {W : World} {base : Nat} {v : Value} {l : List (Int × Int)} (h : OwnR W base v l) {b : Nat} (hb : v.ownBlock = some b) : b < W.heap.size := (World.ownsRow.lt h b hb).2
theorem US.cells (h : US w base p v3 v9 left out x v13 rs W) : W.cell? ⟨p, 0, none⟩ = some (.int .i64 x.1) ∧ W.cell? ⟨p, 1, none⟩ = some (.int .i64 x.2) ∧ W.frozen? ⟨p, 1, none⟩ = false := by
  simp [World.cell?, World.frozen?, h.bx]
theorem US.drewN (h : US w base p v3 v9 left out x v13 rs W) (q : Nat) : US w base p v3 v9 left out x v13 rs (W.drewN q) :=
  ⟨h.bx, h.l.far (fun _ _ => rfl), h.o.far (fun _ _ => rfl), h.r.far (fun _ _ => rfl), h.rp, h.rl, h.ro, h.lp, h.op, h.lo, below_drewN h.b _, h.pb, h.le⟩
/-- what is far begins anew -/
theorem US.anew (h : US w base p v3 v9 left out x v13 rs W) : US w base p v3 v9 left out x (.slice (some ⟨W.heap.size, 0, none⟩) 0 0) [] (W.alloc (.cells #[] 38)) := by
  have hk : ∀ b, b < W.heap.size → (W.alloc (.cells #[] 38)).heap[b]? = W.heap[b]? := fun b hb => Below.heap_alloc _ _ _ hb
  have hp := (Array.getElem?_eq_some_iff.1 h.bx).1
  refine ⟨(hk p hp).trans h.bx, h.l.far (fun b hb => hk b (own_lt h.l hb)), h.o.far (fun b hb => hk b (own_lt h.o hb)), World.ownsRow_lit (e := 38) (size := 2) W #[] 0 h.le (by unfold maxLen; omega) rfl, ?_, ?_, ?_, h.lp, h.op, h.lo, h.b.alloc h.le _, h.pb, by rw [World.size_alloc]; exact Nat.le_succ_of_le h.le⟩
  · intro e
    have : W.heap.size = p := by simpa [Value.ownBlock] using e
    omega
  · intro e
    have := own_lt h.l (b := W.heap.size) (by rw [← e]; rfl)
    omega
  · intro e
    have := own_lt h.o (b := W.heap.size) (by rw [← e]; rfl)
    omega
/-- one more is far -/
theorem US.push {W1 W2 : World} {v' : Value} {y : Int × Int} (h : US w base p v3 v9 left out x v13 rs W) (hb : Below W.heap.size W W1) (ho : OwnR W2 base v' (rs ++ [y])) (hg : W1.grownBy W2 v13.ownBlock) (hbb : Below base W1 W2) (hat : v'.ownBlock = v13.ownBlock ∨ v'.ownBlock = some W1.heap.size) : US w base p v3 v9 left out x v' (rs ++ [y]) W2 := by
  have hp := (Array.getElem?_eq_some_iff.1 h.bx).1
  have hk : ∀ b, b < W.heap.size → v13.ownBlock ≠ some b → W2.heap[b]? = W.heap[b]? := fun b hlt hne => (hg.block b (Nat.lt_of_lt_of_le hlt hb.size) (fun e => hne e.symm)).trans (hb.block b hlt)
  have hz : W.heap.size ≤ W1.heap.size := hb.size
  refine ⟨(hk p hp h.rp).trans h.bx, h.l.far (fun b e => hk b (own_lt h.l e) (fun e2 => h.rl (e2.trans e.symm))), h.o.far (fun b e => hk b (own_lt h.o e) (fun e2 => h.ro (e2.trans e.symm))), ho, ?_, ?_, ?_, h.lp, h.op, h.lo, (h.b.trans (hb.mono h.le)).trans hbb, h.pb, Nat.le_trans h.le (Nat.le_trans hb.size hbb.size)⟩
  · rcases hat with e | e
    · rw [e]; exact h.rp
    · rw [e]; intro e2; have : W1.heap.size = p := by simpa using e2
      omega
  · rcases hat with e | e
    · rw [e]; exact h.rl
    · rw [e]; intro e2
      have := own_lt h.l (b := W1.heap.size) e2.symm
      omega
  · rcases hat with e | e
    · rw [e]; exact h.ro
    · rw [e]; intro e2
      have := own_lt h.o (b := W1.heap.size) e2.symm
      omega
/-- the range grows -/
theorem US.grow (h : US w base p v3 v9 left out x v13 rs W) (k : Int) : US w base p v3 v9 left out (x.1, k) v13 rs (W.setCell ⟨p, 1, none⟩ (.int .i64 k)) := by
  have hk : ∀ (v : Value) (l : List (Int × Int)), OwnR W base v l → v.ownBlock ≠ some p → ∀ b, v.ownBlock = some b → (W.setCell ⟨p, 1, none⟩ (.int .i64 k)).heap[b]? = W.heap[b]? := fun v l _ hne b e => Below.heap_setCell _ _ _ _ (fun e2 => hne (by rw [e]; exact congrArg some e2))
  refine ⟨?_, h.l.far (hk _ _ h.l h.lp), h.o.far (hk _ _ h.o h.op), h.r.far (hk _ _ h.r h.rp), h.rp, h.rl, h.ro, h.lp, h.op, h.lo, h.b.setCell (p := ⟨p, 1, none⟩) h.pb _, h.pb, by simpa [World.setCell] using h.le⟩
  have := cells_setS (j := 1) (u := .int .i64 k) h.bx
  simpa using this
end
theorem us_start {w W : World} {base : Nat} {v3 v9 : Value} {left out : List (Int × Int)} (x : Int × Int) (hL : OwnR W base v3 left) (hQ : OwnR W base v9 out) (hLQ : v3.ownBlock ≠ v9.ownBlock) (hb : Below base w W) (hz : base ≤ W.heap.size) :
    US w base W.heap.size v3 v9 left out x (.slice (some ⟨W.heap.size + 1, 0, none⟩) 0 0) [] ((W.alloc (.cells #[.int .i64 x.1, .int .i64 x.2] 38)).alloc (.cells #[] 38)) := by
  have e : (W.alloc (.cells #[.int .i64 x.1, .int .i64 x.2] 38)).heap.size = W.heap.size + 1 := World.size_alloc _ _
  have hk : ∀ b, b < W.heap.size → ((W.alloc (.cells #[.int .i64 x.1, .int .i64 x.2] 38)).alloc (.cells #[] 38)).heap[b]? = W.heap[b]? := fun b hb => (Below.heap_alloc _ _ _ (by rw [e]; omega)).trans (Below.heap_alloc _ _ _ hb)
  refine ⟨blk_up (blk_new rfl) _, hL.far (fun b h => hk b (own_lt hL h)), hQ.far (fun b h => hk b (own_lt hQ h)), ?_, ?_, ?_, ?_, ?_, ?_, hLQ, (hb.alloc hz _).alloc (by rw [e]; omega) _, hz, by rw [World.size_alloc, e]; omega⟩
  · have := World.ownsRow_lit (e := 38) (size := 2) (base := base) (W.alloc (.cells #[.int .i64 x.1, .int .i64 x.2] 38)) #[] 0 (by rw [e]; omega) (by unfold maxLen; omega) rfl
    rw [e] at this
    exact this
  · intro h
    simp [Value.ownBlock] at h
  · intro h
    have := own_lt hL (b := W.heap.size + 1) (by rw [← h]; rfl)
    omega
  · intro h
    have := own_lt hQ (b := W.heap.size + 1) (by rw [← h]; rfl)
    omega
  · intro h
    have := own_lt hL h
    omega
  · intro h
    have := own_lt hQ h
    omega
end Go.Proofs
