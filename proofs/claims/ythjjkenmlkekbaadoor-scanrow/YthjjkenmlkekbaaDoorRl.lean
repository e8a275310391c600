/-
  A row of things and a row of numbers that came in, as the walks want them.
-/
import Derived.Deep.SlicePairs
import Derived.SizedLaws
import Derived.Test.YthjjkenmlkekbaaDoorRk
import Derived.Test.YthjjkenmlkekbaaDoorSt
namespace Go.Proofs.YthjjkenmlkekbaaDoor
open Go.ChangeShapes Go.WideShapes Go.ChangeAt Go.RowKit Go.WideMaps Go.WideElems Go.Deep

theorem laidOut : laidOutB Tryd.prog = true := by kernel_rfl
theorem cells3 : Tryd.prog.cellsOf 3 = 1 := by kernel_rfl
theorem cells9 : Tryd.prog.cellsOf 9 = 1 := by kernel_rfl
theorem cells41 : Tryd.prog.cellsOf 41 = 3 := by kernel_rfl
theorem bytes41 : Tryd.prog.bytesOf 41 = 32 := by kernel_rfl
theorem bytes3 : Tryd.prog.bytesOf 3 = 8 := by kernel_rfl
def strOf : Value → ByteArray
  | .string s => s
  | _ => ⟨#[]⟩
set_option maxRecDepth 100000 in
theorem things_of_read {H : Type} {enc : TypeId × Value → H} {W : World} {fuel : Nat} {a0 : Option Addr} {len cap : Nat} {x : DataW H × List MemPlace}
    (hf : DataW.trod enc Tryd.prog W 0 (fun _ => true) true fuel 36 [.slice a0 len cap] = some x) : ∃ l : List (Int × Int × ByteArray), RTh W (.slice a0 len cap) l ∧ (∀ y ∈ l, y.2.2.size ≤ 9223372036854775807) ∧ l.length = len ∧ (len = 0 ∨ ∃ el sp, x.1 = .slice el sp ∧ el.length = len) := by
  rcases open_slice Tryd.underlying36 hf with ⟨hcs, hx⟩ | ⟨a, len', cap', m, n, D, Pl, hcs, _, hl, _, hm, hx, hcell⟩
  · simp only [List.cons.injEq, Value.slice.injEq, and_true] at hcs
    obtain ⟨rfl, rfl, rfl⟩ := hcs
    exact ⟨[], ⟨none, 0, rfl, .inl rfl⟩, by simp, rfl, .inl rfl⟩
  · simp only [List.cons.injEq, Value.slice.injEq, and_true] at hcs
    obtain ⟨rfl, rfl, rfl⟩ := hcs
    simp only [if_true] at hm
    subst hm
    have each : ∀ i, i < len → ∃ y : Int × Int × ByteArray, W.cell? (a.add (i * 3)) = some (.int .i64 y.1) ∧ W.cell? (a.add (i * 3 + 1)) = some (.int .i64 y.2.1) ∧ W.cell? (a.add (i * 3 + 2)) = some (.string y.2.2) ∧ y.2.2.size ≤ 9223372036854775807 := by
      intro i hi
      obtain ⟨cs', h1, h2⟩ := hcell i (by omega)
      rw [cells41] at h1
      obtain ⟨_, hlen, hc⟩ := World.cells?_some h1
      obtain ⟨xs, k, hk, hxy, _, hxl, hff⟩ := DataW.trod_struct Tryd.underlying41 h2
      match xs, hxl, cs', hlen with
      | [y0, y1, y2], _, [v0, v1, v2], _ =>
        have g0 := hff 0 _ rfl
        have g1 := hff 1 _ rfl
        have g2 := hff 2 _ rfl
        simp [cells3, cells9] at g0 g1 g2
        obtain ⟨n0, e0, _, _⟩ := DataW.trod_int Tryd.underlying3 g0
        obtain ⟨n1, e1, _, _⟩ := DataW.trod_int Tryd.underlying3 g1
        obtain ⟨s2, e2, _, hs2⟩ := DataW.trod_string Tryd.underlying9 g2
        simp only [List.cons.injEq, and_true] at e0 e1 e2
        subst e0 e1 e2
        have q0 := hc 0 (by omega)
        have q1 := hc 1 (by omega)
        have q2 := hc 2 (by omega)
        rw [add_add] at q0 q1 q2
        exact ⟨(n0, n1, s2), by simpa using q0, by simpa using q1, by simpa using q2, hs2⟩
    obtain ⟨q, hq⟩ := choose_lt each
    have hlen : ((List.range len).map q).length = len := by simp
    refine ⟨(List.range len).map q, ⟨some a, m, by rw [hlen], ?_⟩, ?_, hlen, .inr ⟨_, _, by rw [hx], by simp⟩⟩
    · by_cases h0 : len = 0
      · exact .inl (by rw [h0]; rfl)
      · obtain ⟨b, off, spot⟩ := a
        have hspot : spot = none := by simpa [Addr.add] using World.cell?_spot (hq 0 (by omega)).1
        subst hspot
        refine .inr ⟨b, off, rfl, fun j y hj => ?_⟩
        have hjl : j < len := by
          have := (List.getElem?_eq_some_iff.1 hj).1
          simpa using this
        have hy : y = q j := by
          simp [List.getElem?_map, List.getElem?_range hjl] at hj
          exact hj.symm
        subst hy
        obtain ⟨r0, r1, r2, _⟩ := hq j hjl
        rw [Addr.add_lit] at r0 r1 r2
        exact ⟨r0, by rw [← r1, Nat.add_assoc], by rw [← r2, Nat.add_assoc]⟩
    · intro y hy
      obtain ⟨j, hj, rfl⟩ := List.mem_map.1 hy
      exact (hq j (List.mem_range.1 hj)).2.2.2
set_option maxRecDepth 100000 in
theorem ints_of_read {H : Type} {enc : TypeId × Value → H} {W : World} {fuel : Nat} {a0 : Option Addr} {len cap : Nat} {x : DataW H × List MemPlace}
    (hf : DataW.trod enc Tryd.prog W 0 (fun _ => true) true fuel 37 [.slice a0 len cap] = some x) : ∃ l : List Int, RI W (.slice a0 len cap) l ∧ l.length = len ∧ len ≤ maxLen ∧ (len = 0 ∨ ∃ el sp, x.1 = .slice el sp ∧ el.length = len) := by
  rcases open_slice Tryd.underlying37 hf with ⟨hcs, hx⟩ | ⟨a, len', cap', m, n, D, Pl, hcs, _, hl, hml, hm, hx, hcell⟩
  · simp only [List.cons.injEq, Value.slice.injEq, and_true] at hcs
    obtain ⟨rfl, rfl, rfl⟩ := hcs
    exact ⟨[], ⟨none, 0, rfl, .inl rfl⟩, rfl, Nat.zero_le _, .inl rfl⟩
  · simp only [List.cons.injEq, Value.slice.injEq, and_true] at hcs
    obtain ⟨rfl, rfl, rfl⟩ := hcs
    simp only [if_true] at hm
    subst hm
    have each : ∀ i, i < len → ∃ y : Int, W.cell? (a.add i) = some (.int .i64 y) := by
      intro i hi
      obtain ⟨cs', h1, h2⟩ := hcell i (by omega)
      rw [cells3] at h1
      obtain ⟨_, hlen, hc⟩ := World.cells?_some h1
      match cs', hlen with
      | [v0], _ =>
        obtain ⟨n0, e0, _, _⟩ := DataW.trod_int Tryd.underlying3 h2
        simp only [List.cons.injEq, and_true] at e0
        subst e0
        have q0 := hc 0 (by omega)
        rw [add_add] at q0
        exact ⟨n0, by simpa using q0⟩
    obtain ⟨q, hq⟩ := choose_lt each
    have hlen : ((List.range len).map q).length = len := by simp
    refine ⟨(List.range len).map q, ⟨some a, m, by rw [hlen], ?_⟩, hlen, Nat.le_trans hl hml, .inr ⟨_, _, by rw [hx], by simp⟩⟩
    by_cases h0 : len = 0
    · exact .inl (by rw [h0]; rfl)
    · obtain ⟨b, off, spot⟩ := a
      have hspot : spot = none := by simpa [Addr.add] using World.cell?_spot (hq 0 (by omega))
      subst hspot
      refine .inr ⟨b, off, rfl, fun j y hj => ?_⟩
      have hjl : j < len := by
        have := (List.getElem?_eq_some_iff.1 hj).1
        simpa using this
      have hy : y = q j := by
        simp [List.getElem?_map, List.getElem?_range hjl] at hj
        exact hj.symm
      subst hy
      have r0 := hq j hjl
      rw [Addr.add_lit] at r0
      exact r0
theorem reach41 {H : Type} {ts : List TypeId} {ds : List (DataW H)} (h : (DataW.weightsEach Tryd.prog ts ds).all (· ≤ reachBytes) = true) {j : Nat} {el sp : List (DataW H)} (ht : ts[j]? = some 36) (hd : ds[j]? = some (.slice el sp)) : el.length ≤ 2305843009213693952 := by
  have := sized_slice h ht hd Tryd.underlying36
  rw [bytes41] at this
  unfold reachBytes at this
  omega
theorem reach3 {H : Type} {ts : List TypeId} {ds : List (DataW H)} (h : (DataW.weightsEach Tryd.prog ts ds).all (· ≤ reachBytes) = true) {j : Nat} {el sp : List (DataW H)} (ht : ts[j]? = some 37) (hd : ds[j]? = some (.slice el sp)) : el.length ≤ 4611686018427387904 := by
  have := sized_slice h ht hd Tryd.underlying37
  rw [bytes3] at this
  unfold reachBytes at this
  omega
end Go.Proofs.YthjjkenmlkekbaaDoor
