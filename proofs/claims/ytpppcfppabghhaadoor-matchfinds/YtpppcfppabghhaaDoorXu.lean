/-
  Passes that came in, value by value, as the walks that lend them want them.
-/
import Derived.Test.YtpppcfppabghhaaDoorXv
import Derived.Test.YtpppcfppabghhaaDoorQx
namespace Go.Proofs.YtpppcfppabghhaaDoor
open Go.ChangeShapes Go.WideShapes Go.ChangeAt Go.RowKit Go.WideMaps Go.WideElems Go.Deep

section
variable {H : Type} {enc : TypeId × Value → H} {W : World}
instance : Inhabited RV := ⟨⟨⟨false, false, 0, [], [], [], []⟩, undef, undef, undef, undef, [], [], [], []⟩⟩
theorem pass_readv {fuel : Nat} {cs : List Value} {x : DataW H × List MemPlace} (hf : DataW.trod enc Tryd.prog W 0 (fun _ => true) true fuel 24 cs = some x) : ∃ v xs, cs = [v] ∧ PsV W v xs ∧ (Rows.uptoBulk x.1 ≤ 1048576 → xs.length ≤ 1048576 ∧ ∀ y ∈ xs, Sm y.r) := by
  obtain ⟨xs, k, hk, hxy, hcl, hxl, hff⟩ := DataW.trod_struct Tryd.underlying24 hf
  rw [cells24] at hcl
  match xs, hxl, cs, hcl with
  | [y0], _, [v0], _ =>
    have g0 := hff 0 _ rfl
    simp [cells22] at g0
    have hno := slice_nilok Tryd.underlying22 g0 rfl
    obtain ⟨a, cap, l, hcs, h1, hm, hb, h2⟩ := slice_read (α := RV) Tryd.underlying22 cells28 (by decide) (fun cs d (y : RV) => cs = [.bool y.r.bg, y.av, y.kv, y.pv, .bool y.r.en, y.rv, .int .i64 y.r.cu] ∧ RRv W y.av y.kv y.pv y.rv y.sa y.sk y.sp y.tv y.r ∧ (Rows.uptoBulk d ≤ 1048576 → Sm y.r)) (fun n cs x h => by
      obtain ⟨y, e, h1, h2⟩ := rule_readv h
      exact ⟨⟨y.r, y.av, y.kv, y.pv, y.rv, y.sa, y.sk, y.sp, y.tv⟩, e, h1, h2⟩) g0
    have hbk : Rows.uptoBulk y0.1 ≤ Rows.uptoBulk x.1 := by
      rw [hxy]
      simp only [List.map_cons, List.map_nil, Rows.uptoBulk, Rows.uptoBulkAll]
      omega
    simp only [List.cons.injEq, and_true] at hcs
    subst hcs
    refine ⟨_, l, rfl, ⟨hno, fun j hj => ?_, a, cap, rfl, h1, h2.imp id ?_⟩, fun hq => ⟨by omega, fun y hy => ?_⟩⟩
    · rcases h2 with rfl | ⟨g, o, _, h⟩
      · simp at hj
      · obtain ⟨_, _, _, ⟨_, h4, _⟩, _⟩ := h j hj
        exact h4
    · rintro ⟨g, o, rfl, h⟩
      refine ⟨g, o, rfl, fun j hj => ?_⟩
      obtain ⟨cs', _, _, ⟨rfl, _, _⟩, _, h3⟩ := h j hj
      exact ⟨h3 0 _ rfl, h3 1 _ rfl, h3 2 _ rfl, h3 3 _ rfl, h3 4 _ rfl, h3 5 _ rfl, h3 6 _ rfl⟩
    · rcases h2 with rfl | ⟨g, o, _, h⟩
      · cases hy
      · obtain ⟨j, hj, rfl⟩ := List.getElem_of_mem hy
        obtain ⟨_, d, _, ⟨_, _, h5⟩, h6, _⟩ := h j hj
        exact h5 (by omega)
end
end Go.Proofs.YtpppcfppabghhaaDoor
