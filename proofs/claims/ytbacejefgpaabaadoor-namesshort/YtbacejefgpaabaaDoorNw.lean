/-
  names: the lines of the document's example are lines that Passes may be asked of; what lies in the passes that it makes.
-/
import Derived.Test.YtbacejefgpaabaaDoorNr
import Derived.Test.YtbacejefgpaabaaDoorNs
import Derived.Test.YtbacejefgpaabaaDoorNu
namespace Go.Proofs
open Go.RowKit Go.Shelf

set_option maxRecDepth 100000

theorem cellB {W : World} {g : Nat} {cs : List Value} {t : TypeId} {f : Nat × Nat} (hb : W.heap[g]? = some (.cells cs.toArray t f)) (j : Nat) : W.cell? ⟨g, j, none⟩ = cs[j]? := by
  simp [World.cell?, hb]
theorem blk_lt {W : World} {g : Nat} {o : Obj} (hb : W.heap[g]? = some o) : g < W.heap.size := (Array.getElem?_eq_some_iff.1 hb).1
theorem itAtB {W : World} {g : Nat} {cs : List Value} {t : TypeId} {f : Nat × Nat} (hb : W.heap[g]? = some (.cells cs.toArray t f)) (o : Nat) (x : It) (ps : Value) (h : (cs.drop o).take 8 = itc x.k x.u x.nm ps x.lo x.hi x.nt x.ky) : ItAt W g o x ps := by
  have key : ∀ j, j < 8 → W.cell? ⟨g, o + j, none⟩ = (itc x.k x.u x.nm ps x.lo x.hi x.nt x.ky)[j]? := fun j hj => by
    rw [cellB hb, ← h, List.getElem?_take_of_lt hj, List.getElem?_drop]
  exact ⟨key 0 (by omega), key 1 (by omega), key 2 (by omega), key 3 (by omega), key 4 (by omega), key 5 (by omega), key 6 (by omega), key 7 (by omega)⟩
abbrev xU (u : Int) : It := ⟨1, u, ⟨#[]⟩, 0, 0, false, 0⟩
abbrev xS : It := ⟨5, 0, ⟨#[]⟩, 0, 0, false, 0⟩
abbrev xN : It := ⟨2, 0, ⟨#[118]⟩, 0, 0, false, 0⟩
abbrev xR : It := ⟨6, 0, ⟨#[]⟩, 65, 66, false, 0⟩
abbrev xP : It := ⟨8, 0, ⟨#[]⟩, 0, 0, false, 1⟩
theorem small_nm (n : ByteArray) (h : n.size ≤ 1) : n.size ≤ maxLen := by unfold maxLen; omega
theorem irow_one {W : World} {g c : Nat} {p : PIt} (hlt : g < W.heap.size) (hi : ItAt W g 0 p.x p.v) (hk : ItemOk W p.x p.v p.l) : IRow W (.slice (some ⟨g, 0, none⟩) 1 c) [p] :=
  ⟨show 1 ≤ 1000000 by decide, fun q hq => (by
    have e : q = p := by simpa using hq
    rw [e]; exact hk), .inr ⟨g, 0, c, rfl, fun _ _ => hlt, fun j hj => by
    obtain rfl : j = 0 := by simpa using hj
    exact hi⟩⟩
theorem irow_nil {W : World} : IRow W (.slice none 0 0) [] := ⟨by decide, fun q hq => absurd hq (by simp), .inl ⟨rfl, rfl⟩⟩
theorem rrow_one {W : World} {g c : Nat} {p : RIt} (hlt : g < W.heap.size) (hi : ItAt W g 0 p.x p.v) (hk : RItOk W p) : RRow W (.slice (some ⟨g, 0, none⟩) 1 c) [p] :=
  ⟨show 1 ≤ 1000000 by decide, fun q hq => (by
    have e : q = p := by simpa using hq
    rw [e]; exact hk), .inr ⟨g, 0, c, rfl, fun _ _ => hlt, fun j hj => by
    obtain rfl : j = 0 := by simpa using hj
    exact hi⟩⟩
theorem item_plain {W : World} {x : It} (h3 : x.k ≠ 3) (h5 : x.k ≠ 5) (hn : x.nm.size ≤ 1) : ItemOk W x nl [] := ⟨h3, small_nm _ hn, ⟨_, _, _, rfl⟩, fun h => absurd h h5⟩
/-- the four lines -/
theorem lines_ok {W : World} {lg : Nat} {a b c d e : Value} (hl : W.heap[lg]? = some (.cells (lnc 1 0 ⟨#[118]⟩ false false nl a nl nl 0 ++ lnc 2 0 ⟨#[]⟩ false false nl b nl c 1 ++ lnc 3 0 ⟨#[]⟩ false false nl nl nl nl 0 ++ lnc 2 0 ⟨#[]⟩ false false nl d nl e 1).toArray 53 (0, 0)))
    (h1 : P18 W a) (h2 : PU 120 W b) (h3 : PU 121 W c) (h4 : P27 W d) (h5 : P33 W e) : ∃ (ls : List (LV × LnK)) (dg eg : Nat) (k4 : LnK), ls.length = 4 ∧ d = .slice (some ⟨dg, 0, none⟩) 1 1 ∧ e = .slice (some ⟨eg, 0, none⟩) 1 1 ∧ (∀ (j : Nat) (hj : j < ls.length), LnAt W lg (0 + j * 10) ls[j].1) ∧ (∀ p ∈ ls, LineOk W p.1 p.2) ∧
      (∀ cc n ps, PassesC (ls.map Prod.snd) (fun _ => none) [[]] 0 cc n ps → cc = 0 ∧ n = 0 ∧ ∃ x1 x2 s, ps = [[x1], [x2]] ∧ x2.key = [[(97, 97), (101, 101)]] ∧ x2.res = [⟨3, 0, 0, s⟩]) ∧ LineOk W ⟨2, 0, ⟨#[]⟩, false, false, none, some ⟨dg, 0, none⟩, none, some ⟨eg, 0, none⟩, 0, 1, 0, 1, 0, 1, 0, 1, 1⟩ k4 ∧ (∀ cc n ps, PassesC [k4] (fun _ => none) [[]] 0 cc n ps → cc = 60 ∧ n = 0) := by
  obtain ⟨s1, ⟨ga, rfl, ha⟩, ⟨gs, rfl, hs⟩⟩ := h1
  obtain ⟨gb, rfl, hb⟩ := h2
  obtain ⟨gc, rfl, hc⟩ := h3
  obtain ⟨gd, rfl, hd⟩ := h4
  obtain ⟨s2, ⟨ge, rfl, he⟩, s3, ⟨gf, rfl, hf⟩, ⟨gh, rfl, hh⟩⟩ := h5
  let q1 : PIt := ⟨xS, .slice (some ⟨gs, 0, none⟩) 2 2, [(xU 97, nl), (xU 101, nl)]⟩
  let l2 : Ln := ⟨false, false, 1, [], [⟨xU 120, nl, []⟩], [], [⟨xU 121, nl, q1⟩]⟩
  let q4 : PIt := ⟨xS, .slice (some ⟨gh, 0, none⟩) 1 1, [(xR, nl)]⟩
  let l4 : Ln := ⟨false, false, 1, [], [⟨xN, nl, []⟩], [], [⟨xP, .slice (some ⟨gf, 0, none⟩) 1 1, q4⟩]⟩
  have o1 : ItemOk W q1.x q1.v q1.l := ⟨show (5 : Int) ≠ 3 by decide, small_nm _ (show (⟨#[]⟩ : ByteArray).size ≤ 1 by decide), ⟨_, _, _, rfl⟩, fun _ => ⟨gs, 0, 2, rfl, show 2 ≤ 1000000 by decide, fun p hp => by
    simp only [q1, List.mem_cons, List.not_mem_nil, or_false] at hp
    rcases hp with rfl | rfl
    · exact ⟨by decide, small_nm _ (by decide), _, _, _, rfl⟩
    · exact ⟨by decide, small_nm _ (by decide), _, _, _, rfl⟩, fun _ _ => blk_lt hs, fun j hj => by
    have : j = 0 ∨ j = 1 := by have : j < 2 := hj; omega
    rcases this with rfl | rfl
    · exact itAtB hs 0 (xU 97) nl rfl
    · exact itAtB hs 8 (xU 101) nl rfl⟩⟩
  have o4 : ItemOk W q4.x q4.v q4.l := ⟨show (5 : Int) ≠ 3 by decide, small_nm _ (show (⟨#[]⟩ : ByteArray).size ≤ 1 by decide), ⟨_, _, _, rfl⟩, fun _ => ⟨gh, 0, 1, rfl, show 1 ≤ 1000000 by decide, fun p hp => by
    obtain rfl : p = (xR, nl) := by simpa [q4] using hp
    exact ⟨by decide, small_nm _ (by decide), _, _, _, rfl⟩, fun _ _ => blk_lt hh, fun j hj => by
    obtain rfl : j = 0 := by have : j < 1 := hj; omega
    exact itAtB hh 0 xR nl rfl⟩⟩
  have ok1 : LineOk W ⟨1, 0, ⟨#[118]⟩, false, false, none, some ⟨ga, 0, none⟩, none, none, 0, 1, 0, 0, 0, 1, 0, 0, 0⟩ (.nm ⟨#[118]⟩ q1) := ⟨rfl, rfl, small_nm _ (by decide), ⟨_, _, _, rfl⟩, o1, ga, 0, rfl, rfl, blk_lt ha, itAtB ha 0 xS _ rfl⟩
  have ok2 : LineOk W ⟨2, 0, ⟨#[]⟩, false, false, none, some ⟨gb, 0, none⟩, none, some ⟨gc, 0, none⟩, 0, 1, 0, 1, 0, 1, 0, 1, 1⟩ (.rl l2) := ⟨rfl, rfl, rfl, rfl, irow_nil, irow_one (blk_lt hb) (itAtB hb 0 (xU 120) nl rfl) (item_plain (by decide) (by decide) (by decide)), irow_nil, rrow_one (blk_lt hc) (itAtB hc 0 (xU 121) nl rfl) ⟨⟨_, _, _, rfl⟩, .inl rfl⟩⟩
  have ok4 : LineOk W ⟨2, 0, ⟨#[]⟩, false, false, none, some ⟨gd, 0, none⟩, none, some ⟨ge, 0, none⟩, 0, 1, 0, 1, 0, 1, 0, 1, 1⟩ (.rl l4) := ⟨rfl, rfl, rfl, rfl, irow_nil, irow_one (blk_lt hd) (itAtB hd 0 xN nl rfl) (item_plain (by decide) (by decide) (by decide)), irow_nil, rrow_one (blk_lt he) (itAtB he 0 xP _ rfl) ⟨⟨_, _, _, rfl⟩, .inr (.inr ⟨rfl, show (1 : Int) ≤ 1 by decide, show (1 : Int) ≤ 4611686018427387904 by decide, ⟨_, _, _, rfl⟩, gf, 0, 1, rfl, blk_lt hf, itAtB hf 0 xS _ rfl, o4⟩)⟩⟩
  refine ⟨[(⟨1, 0, ⟨#[118]⟩, false, false, none, some ⟨ga, 0, none⟩, none, none, 0, 1, 0, 0, 0, 1, 0, 0, 0⟩, .nm ⟨#[118]⟩ q1), (⟨2, 0, ⟨#[]⟩, false, false, none, some ⟨gb, 0, none⟩, none, some ⟨gc, 0, none⟩, 0, 1, 0, 1, 0, 1, 0, 1, 1⟩, .rl l2), (⟨3, 0, ⟨#[]⟩, false, false, none, none, none, none, 0, 0, 0, 0, 0, 0, 0, 0, 0⟩, .th), (⟨2, 0, ⟨#[]⟩, false, false, none, some ⟨gd, 0, none⟩, none, some ⟨ge, 0, none⟩, 0, 1, 0, 1, 0, 1, 0, 1, 1⟩, .rl l4)], gd, ge, .rl l4, rfl, rfl, rfl, fun j hj => ?_, fun p hp => ?_, fun cc n ps h => ?_, ok4, fun cc n ps h => ?_⟩
  · have : j = 0 ∨ j = 1 ∨ j = 2 ∨ j = 3 := by have : j < 4 := hj; omega
    rcases this with rfl | rfl | rfl | rfl <;> exact ⟨(cellB hl _).trans rfl, (cellB hl _).trans rfl, (cellB hl _).trans rfl, (cellB hl _).trans rfl, (cellB hl _).trans rfl, (cellB hl _).trans rfl, (cellB hl _).trans rfl, (cellB hl _).trans rfl, (cellB hl _).trans rfl, (cellB hl _).trans rfl⟩
  · simp only [List.mem_cons, List.not_mem_nil, or_false] at hp
    rcases hp with rfl | rfl | rfl | rfl
    · exact ok1
    · exact ok2
    · exact rfl
    · exact ok4
  · exact shown_lines (q := q1) (a := xU 97) (e := xU 101) (l1 := l2) (l2 := l4) (z := xR) rfl rfl rfl ⟨rfl, rfl⟩ ⟨rfl, rfl⟩ rfl rfl rfl rfl ⟨rfl, rfl⟩ ⟨rfl, rfl⟩ rfl rfl rfl rfl ⟨rfl, rfl⟩ ⟨rfl, rfl⟩ rfl rfl rfl ⟨rfl, rfl, rfl⟩ h
  · exact shown_none (l2 := l4) rfl rfl rfl h
/-- what lies in the second pass's rule -/
theorem pass_facts {W : World} {base : Nat} {A : Option Addr} {n cp : Nat} {x1 x2 : Rl} {ks s : List (Int × Int)} (h : PassRow W base (.slice A n cp) [[x1], [x2]]) (hk : x2.key = [ks]) (hr : x2.res = [⟨3, 0, 0, s⟩]) :
    ∃ pg rg rc kg kc xg xc sv, A = some ⟨pg, 0, none⟩ ∧ n = 2 ∧ W.cell? ⟨pg, 1, none⟩ = some (.slice (some ⟨rg, 0, none⟩) 1 rc) ∧ W.cell? ⟨rg, 2, none⟩ = some (.slice (some ⟨kg, 0, none⟩) 1 kc) ∧ W.cell? ⟨rg, 5, none⟩ = some (.slice (some ⟨xg, 0, none⟩) 1 xc) ∧ W.cell? ⟨kg, 0, none⟩ = some sv ∧ Rs W sv ks ∧ W.cell? ⟨xg, 2, none⟩ = some (.int .i64 0) := by
  obtain ⟨vs, v1, v2, v3, _⟩ := h
  have hvl : vs.length = 2 := v1
  obtain ⟨pg, pc, e1, _, _⟩ := v2.form (by omega)
  simp only [Value.slice.injEq] at e1
  obtain ⟨rfl, rfl, rfl⟩ := e1
  obtain ⟨es, es1, es2, es3⟩ := v3 1 (by omega) (by simp)
  have hel : es.length = 1 := by have := congrArg List.length es1; simpa using this
  obtain ⟨ev, rfl⟩ := List.length_eq_one_iff.1 hel
  obtain rfl : ev.r = x2 := by simpa using es1
  obtain ⟨rg, rc, e2, _, _⟩ := es2.form (by simp)
  have c1 : W.cell? ⟨pg, 1, none⟩ = some vs[1] := by
    have := v2.cells (g := pg) rfl 1 vs[1] (by rw [List.getElem?_eq_getElem])
    simpa [Addr.add] using this
  have hM := es3 ev (by simp)
  obtain ⟨ks', k1, k2, _, k4⟩ := hM.2.1
  rw [hk] at k1 k4
  have hkl : ks'.length = 1 := by simpa using k1
  obtain ⟨sv, rfl⟩ := List.length_eq_one_iff.1 hkl
  obtain ⟨kg, kc, e3, _, _⟩ := k2.form (by simp)
  obtain ⟨ps', p1, p2, p3⟩ := hM.2.2.2
  rw [hr] at p1
  have hpl : ps'.length = 1 := by have := congrArg List.length p1; simpa using this
  obtain ⟨pv, rfl⟩ := List.length_eq_one_iff.1 hpl
  have hpp : pv.p = ⟨3, 0, 0, s⟩ := by simpa using p1
  obtain ⟨xg, xc, e4, _, _⟩ := p2.form (by simp)
  have r2 : W.cell? ⟨rg, 2, none⟩ = some ev.kv := by
    have := es2.cells (g := rg) (by rw [e2]; rfl) 2 ev.kv (by simp [fr, fr1])
    simpa [Addr.add] using this
  have r5 : W.cell? ⟨rg, 5, none⟩ = some ev.rv := by
    have := es2.cells (g := rg) (by rw [e2]; rfl) 5 ev.rv (by simp [fr, fr1])
    simpa [Addr.add] using this
  have ck : W.cell? ⟨kg, 0, none⟩ = some sv := by
    have := k2.cells (g := kg) (by rw [e3]; rfl) 0 sv (by simp)
    simpa [Addr.add] using this
  have cx : W.cell? ⟨xg, 2, none⟩ = some (.int .i64 0) := by
    have := p2.cells (g := xg) (by rw [e4]; rfl) 2 (.int .i64 0) (by simp [fp, fp1, hpp])
    simpa [Addr.add] using this
  refine ⟨pg, rg, rc, kg, kc, xg, xc, sv, rfl, hvl, ?_, ?_, ?_, ck, (k4 0 (by simp) (by simp)).rs, cx⟩
  · rw [c1, e2]; rfl
  · rw [r2, e3]; rfl
  · rw [r5, e4]; rfl
end Go.Proofs
