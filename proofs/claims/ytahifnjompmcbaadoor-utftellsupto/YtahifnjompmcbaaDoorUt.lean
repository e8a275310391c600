/-
  The table of spellings, where it reads as it is laid, lies in its sixteen cells.
-/
import Derived.Test.YtahifnjompmcbaaDoorCards
import Derived.Test.YtahifnjompmcbaaDoorTie
import Derived.WalkKit
import Derived.ProofKit
import Derived.OpenShut
import Derived.Deep.DeepHandedRow
import Derived.Lib.LaidTab
import Derived.Test.YtahifnjompmcbaaDoorUe
namespace Go.Proofs.YtahifnjompmcbaaDoor
open Go.ChangeShapes Go.WideShapes Go.ChangeAt Go.RowKit

theorem own : ownKnob Tryd.prog.godebug = none := by kernel_rfl
theorem gTab : Tryd.prog.globalNamed "respell/utf.spellings" = some 0 := by kernel_rfl
theorem gTabType : (Tryd.prog.globals[0]?).map (·.type) = some 52 := by kernel_rfl
theorem cells44 : Tryd.prog.cellsOf 52 = 16 := by kernel_rfl
theorem cells43 : Tryd.prog.cellsOf 51 = 4 := by kernel_rfl
theorem cells3 : Tryd.prog.cellsOf 3 = 1 := by kernel_rfl
set_option maxRecDepth 100000 in
theorem rowOf {H : Type} {enc : TypeId × Value → H} {W : World} {base : Nat} {sp : Nat → Bool} {held : Bool} {fuel : Nat} {cs : List Value} {a b c d : Int} {p : List MemPlace}
    (h : DataW.trod enc Tryd.prog W base sp held fuel 51 cs = some (.agg [.lit (.int .i64 a), .lit (.int .i64 b), .lit (.int .i64 c), .lit (.int .i64 d)], p)) : cs = [.int .i64 a, .int .i64 b, .int .i64 c, .int .i64 d] := by
  cases fuel with
  | zero => simp [DataW.trod] at h
  | succ m =>
    simp only [DataW.trod, Tryd.underlying51] at h
    split at h
    · rename_i hl
      rw [cells43] at hl
      match cs, hl with
      | [c0, c1, c2, c3], _ =>
        simp only [cells3, List.mapM_cons, List.mapM_nil, Option.bind_eq_bind, Option.bind_eq_some_iff, Option.map_eq_some_iff, Option.pure_def, Option.some.injEq, List.drop_zero, List.take_succ_cons, List.take_zero, List.drop_succ_cons] at h
        obtain ⟨xs, ⟨x0, h0, xs1, ⟨x1, h1, xs2, ⟨x2, h2, xs3, ⟨x3, h3, xs4, rfl, rfl⟩, rfl⟩, rfl⟩, rfl⟩, hx⟩ := h
        obtain ⟨n0, e0, rfl, _⟩ := DataW.trod_int Tryd.underlying3 h0
        obtain ⟨n1, e1, rfl, _⟩ := DataW.trod_int Tryd.underlying3 h1
        obtain ⟨n2, e2, rfl, _⟩ := DataW.trod_int Tryd.underlying3 h2
        obtain ⟨n3, e3, rfl, _⟩ := DataW.trod_int Tryd.underlying3 h3
        simp at e0 e1 e2 e3 hx
        obtain ⟨⟨rfl, rfl, rfl, rfl⟩, _⟩ := hx
        rw [e0, e1, e2, e3]
    · cases h
theorem split16 (l : List Value) (h : l.length = 16) : l = (l.drop (0 * 4)).take 4 ++ ((l.drop (1 * 4)).take 4 ++ ((l.drop (2 * 4)).take 4 ++ (l.drop (3 * 4)).take 4)) := by
  match l, h with
  | [c0, c1, c2, c3, c4, c5, c6, c7, c8, c9, c10, c11, c12, c13, c14, c15], _ => rfl
set_option maxRecDepth 100000 in
theorem table {W : World} (h : laidMet Tryd.prog [("respell/utf.spellings", Rows.laid_respell_utf_spellings)] W) : Tab W := by
  obtain ⟨ps, ⟨g', t', cs, fuel, p, q, hg', ht', hvar, hd, _, _⟩, _⟩ := h
  obtain rfl := Option.some.inj (gTab.symm.trans hg')
  obtain rfl := Option.some.inj (gTabType.symm.trans ht')
  obtain ⟨xs, m, rfl, hx, hl, hn, hi⟩ := DataW.trod_array Tryd.underlying52 hd
  rw [cells44] at hl
  rw [cells43] at hi
  have hx1 := (Prod.mk.inj hx).1
  simp only [Rows.laid_respell_utf_spellings] at hx1
  match xs, hn with
  | [x0, x1, x2, x3], _ =>
    obtain ⟨y0, p0⟩ := x0
    obtain ⟨y1, p1⟩ := x1
    obtain ⟨y2, p2⟩ := x2
    obtain ⟨y3, p3⟩ := x3
    simp only [List.map_cons, List.map_nil, DataW.agg.injEq, List.cons.injEq, and_true] at hx1
    obtain ⟨rfl, rfl, rfl, rfl⟩ := hx1
    have r0 := rowOf (hi 0 (by omega))
    have r1 := rowOf (hi 1 (by omega))
    have r2 := rowOf (hi 2 (by omega))
    have r3 := rowOf (hi 3 (by omega))
    have hcs := split16 cs.toList hl
    rw [r0, r1, r2, r3] at hcs
    have hca : cs = tabV := by rw [← Array.toArray_toList (xs := cs), hcs]; rfl
    intro j v hv
    have hc := World.var?_cell gTab hvar j
    rw [hc, hca]
    exact hv
end Go.Proofs.YtahifnjompmcbaaDoor
