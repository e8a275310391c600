/-
  A list that a call is handed is within the reach.
-/
import Derived.SizedLaws
import Derived.Test.YtmgkolelcflcbaaDoorVr
namespace Go.Proofs.YtmgkolelcflcbaaDoor
open Go.ChangeShapes Go.WideShapes Go.ChangeAt Go.RowKit Go.WideMaps Go.WideElems

theorem len_of_read {H : Type} {enc : TypeId × Value → H} {W : World} {fuel : Nat} {t : TypeId} (ht : Tryd.prog.underlying t = some (.slice 38)) {a0 : Option Addr} {len cap : Nat} {x : DataW H × List MemPlace}
    (hf : DataW.trod enc Tryd.prog W 0 (fun _ => true) true fuel t [.slice a0 len cap] = some x) : len = 0 ∨ ∃ el sp, x.1 = .slice el sp ∧ el.length = len := by
  rcases Go.Deep.open_slice_pairs ht Tryd.underlying38 cells38 rfl rfl cells3 cells3 hf with ⟨hcs, hx⟩ | ⟨a, len', cap', m, n, V0, V1, D0, D1, P0, P1, hcs, _, hl, _, hm, hx, hcell⟩
  · simp only [List.cons.injEq, Value.slice.injEq, and_true] at hcs
    exact .inl hcs.2.1
  · simp only [List.cons.injEq, Value.slice.injEq, and_true] at hcs
    obtain ⟨rfl, rfl, rfl⟩ := hcs
    exact .inr ⟨_, _, by rw [hx], by simp⟩
theorem bytes38 : Tryd.prog.bytesOf 38 = 16 := by kernel_rfl
theorem reach_len {H : Type} {ts : List TypeId} {ds : List (DataW H)} (h : (DataW.weightsEach Tryd.prog ts ds).all (· ≤ reachBytes) = true) {j : Nat} {t : TypeId} {el sp : List (DataW H)} (ht : ts[j]? = some t) (hd : ds[j]? = some (.slice el sp)) (hu : Tryd.prog.underlying t = some (.slice 38)) : el.length ≤ 8796093021952 := by
  have := sized_slice h ht hd hu
  rw [bytes38] at this
  unfold reachBytes at this
  omega
end Go.Proofs.YtmgkolelcflcbaaDoor
