/-
  A row of ranges that came in, as the walks want it.
-/
import Derived.Deep.SlicePairs
import Derived.Test.YtmgkolelcflcbaaDoorVb
import Derived.Test.YtmgkolelcflcbaaDoorVt
namespace Go.Proofs.YtmgkolelcflcbaaDoor
open Go.ChangeShapes Go.WideShapes Go.ChangeAt Go.RowKit Go.WideMaps Go.WideElems

theorem laidOut : laidOutB Tryd.prog = true := by kernel_rfl
theorem sets_of_read {H : Type} {enc : TypeId × Value → H} {W : World} {fuel : Nat} {t : TypeId} (ht : Tryd.prog.underlying t = some (.slice 38)) {a0 : Option Addr} {len cap : Nat} {x : DataW H × List MemPlace}
    (hf : DataW.trod enc Tryd.prog W 0 (fun _ => true) true fuel t [.slice a0 len cap] = some x) : ∃ l : List (Int × Int), Rs W (.slice a0 len cap) l ∧ l.length = len := by
  rcases Go.Deep.open_slice_pairs ht Tryd.underlying38 cells38 rfl rfl cells3 cells3 hf with ⟨hcs, hx⟩ | ⟨a, len', cap', m, n, V0, V1, D0, D1, P0, P1, hcs, _, hl, _, hm, hx, hcell⟩
  · simp only [List.cons.injEq, Value.slice.injEq, and_true] at hcs
    obtain ⟨rfl, rfl, rfl⟩ := hcs
    exact ⟨[], ⟨none, 0, rfl, Nat.le_refl _, .inl rfl⟩, rfl⟩
  · simp only [List.cons.injEq, Value.slice.injEq, and_true] at hcs
    obtain ⟨rfl, rfl, rfl⟩ := hcs
    simp only [if_true] at hm
    subst hm
    have hlen : ((List.range len).map fun i => (intOf (V0 i), intOf (V1 i))).length = len := by simp
    refine ⟨(List.range len).map fun i => (intOf (V0 i), intOf (V1 i)), ⟨some a, m, by rw [hlen], by rw [hlen]; exact hl, ?_⟩, hlen⟩
    by_cases h0 : len = 0
    · exact .inl (by rw [h0]; rfl)
    · obtain ⟨b, off, spot⟩ := a
      have hspot : spot = none := by simpa [Addr.add] using World.cell?_spot (hcell 0 (by omega)).1
      subst hspot
      refine .inr ⟨b, off, rfl, fun j hj => ?_⟩
      rw [hlen] at hj
      obtain ⟨c0, c1, t0, t1⟩ := hcell j (by omega)
      obtain ⟨n0, e0, _, _⟩ := DataW.trod_int Tryd.underlying3 t0
      obtain ⟨n1, e1, _, _⟩ := DataW.trod_int Tryd.underlying3 t1
      simp only [List.cons.injEq, and_true] at e0 e1
      have hr : rg ((List.range len).map fun i => (intOf (V0 i), intOf (V1 i))) j = (n0, n1) := by
        simp [rg, hj, e0, e1, intOf]
      rw [hr]
      rw [Addr.add_lit] at c0 c1
      exact ⟨by rw [c0, e0], by rw [show off + j * 2 + 1 = off + (j * 2 + 1) by omega, c1, e1]⟩
end Go.Proofs.YtmgkolelcflcbaaDoor
