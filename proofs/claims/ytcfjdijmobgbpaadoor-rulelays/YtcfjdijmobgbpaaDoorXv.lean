/-
  Rules that came in, value by value, as the walks that lend them want them.
-/
import Derived.Test.YtcfjdijmobgbpaaDoorXw
import Derived.Test.YtcfjdijmobgbpaaDoorTh
namespace Go.Proofs.YtcfjdijmobgbpaaDoor
open Go.ChangeShapes Go.WideShapes Go.ChangeAt Go.RowKit Go.WideMaps Go.WideElems Go.Deep

section
variable {H : Type} {enc : TypeId × Value → H} {W : World}
theorem slice_nilok {t e : TypeId} (ht : Tryd.prog.underlying t = some (.slice e)) {fuel : Nat} {cs : List Value} {x : DataW H × List MemPlace} (hf : DataW.trod enc Tryd.prog W 0 (fun _ => true) true fuel t cs = some x) {v : Value} (hv : cs = [v]) : NilOk v := by
  rcases open_slice ht hf with ⟨hcs, _⟩ | ⟨a, len, cap, _, _, _, _, hcs, _⟩
  · rw [hv] at hcs
    exact .inl (by simpa using hcs)
  · rw [hv] at hcs
    exact .inr ⟨a, len, cap, by simpa using hcs⟩
theorem row_readv {fuel : Nat} {cs : List Value} {x : DataW H × List MemPlace} (hf : DataW.trod enc Tryd.prog W 0 (fun _ => true) true fuel 22 cs = some x) : ∃ v svs ls, cs = [v] ∧ SRv W v svs ls ∧ ls.length ≤ Rows.uptoBulk x.1 ∧ ∀ l ∈ ls, l.length ≤ Rows.uptoBulk x.1 := by
  obtain ⟨a, cap, l, hcs, h1, _, hb, h2⟩ := slice_read Tryd.underlying22 cells51 (by decide) (fun cs d (y : Value × List (Int × Int)) => cs = [y.1] ∧ Rs W y.1 y.2 ∧ NilOk y.1 ∧ y.2.length ≤ Rows.uptoBulk d) (fun n cs x h => by
    obtain ⟨v, l, e, h1, h2⟩ := set_read h
    exact ⟨(v, l), e, h1, slice_nilok Tryd.underlying51 h e, h2⟩) hf
  have hn := slice_nilok Tryd.underlying22 hf hcs
  refine ⟨_, l.map Prod.fst, l.map Prod.snd, hcs, ⟨by simp, fun j h3 h4 => ?_, hn, a, cap, by simp, by simpa using h1, ?_⟩, by simpa using hb, fun y hy => ?_⟩
  · have hj : j < l.length := by simpa using h3
    rcases h2 with rfl | ⟨g, o, _, h⟩
    · simp at hj
    · obtain ⟨cs', _, _, ⟨_, k1, k2, _⟩, _⟩ := h j hj
      simpa using ⟨k1, k2⟩
  · rcases h2 with rfl | ⟨g, o, rfl, h⟩
    · exact .inl rfl
    · refine .inr ⟨g, o, rfl, fun j h3 => ?_⟩
      have hj : j < l.length := by simpa using h3
      obtain ⟨cs', _, _, ⟨rfl, _, _, _⟩, _, h5⟩ := h j hj
      have := h5 0 _ rfl
      rw [Nat.mul_one] at this
      simpa using this
  · obtain ⟨z, hz, rfl⟩ := List.mem_map.1 hy
    rcases h2 with rfl | ⟨g, o, _, h⟩
    · cases hz
    · obtain ⟨j, hj, rfl⟩ := List.getElem_of_mem hz
      obtain ⟨cs', d, _, ⟨_, _, _, h4⟩, h5, _⟩ := h j hj
      omega
theorem pieces_readv {fuel : Nat} {cs : List Value} {x : DataW H × List MemPlace} (hf : DataW.trod enc Tryd.prog W 0 (fun _ => true) true fuel 23 cs = some x) : ∃ v tvs ps, cs = [v] ∧ PRv W v tvs ps ∧ ps.length ≤ Rows.uptoBulk x.1 ∧ ∀ p ∈ ps, p.tl.length ≤ Rows.uptoBulk x.1 := by
  obtain ⟨a, cap, l, hcs, h1, _, hb, h2⟩ := slice_read Tryd.underlying23 cells53 (by decide) (fun cs d (y : Value × Pc) => cs = [.int .i64 y.2.k, .int .i64 y.2.u, .int .i64 y.2.y, y.1] ∧ Rs W y.1 y.2.tl ∧ NilOk y.1 ∧ y.2.tl.length ≤ Rows.uptoBulk d) (fun n cs x h => by
    obtain ⟨xs, k, hk, hxy, hcl, hxl, hff⟩ := DataW.trod_struct Tryd.underlying53 h
    rw [cells53] at hcl
    match xs, hxl, cs, hcl with
    | [y0, y1, y2, y3], _, [v0, v1, v2, v3], _ =>
      have g0 := hff 0 _ rfl
      have g1 := hff 1 _ rfl
      have g2 := hff 2 _ rfl
      have g3 := hff 3 _ rfl
      simp [cells3, cells51] at g0 g1 g2 g3
      obtain ⟨n0, e0, _, _⟩ := DataW.trod_int Tryd.underlying3 g0
      obtain ⟨n1, e1, _, _⟩ := DataW.trod_int Tryd.underlying3 g1
      obtain ⟨n2, e2, _, _⟩ := DataW.trod_int Tryd.underlying3 g2
      have hnil := slice_nilok Tryd.underlying51 g3 rfl
      obtain ⟨v, l, e3, h3, h4⟩ := set_read g3
      simp only [List.cons.injEq, and_true] at e0 e1 e2 e3
      subst e0 e1 e2 e3
      refine ⟨(v3, ⟨n0, n1, n2, l⟩), rfl, h3, hnil, Nat.le_trans h4 ?_⟩
      rw [hxy]
      simp only [List.map_cons, List.map_nil, Rows.uptoBulk, Rows.uptoBulkAll]
      omega) hf
  have hn := slice_nilok Tryd.underlying23 hf hcs
  refine ⟨_, l.map Prod.fst, l.map Prod.snd, hcs, ⟨by simp, fun j h3 h4 => ?_, hn, a, cap, by simp, by simpa using h1, ?_⟩, by simpa using hb, fun y hy => ?_⟩
  · have hj : j < l.length := by simpa using h3
    rcases h2 with rfl | ⟨g, o, _, h⟩
    · simp at hj
    · obtain ⟨cs', _, _, ⟨_, k1, k2, _⟩, _⟩ := h j hj
      simpa using ⟨k1, k2⟩
  · rcases h2 with rfl | ⟨g, o, rfl, h⟩
    · exact .inl rfl
    · refine .inr ⟨g, o, rfl, fun j h3 h4 => ?_⟩
      have hj : j < l.length := by simpa using h3
      obtain ⟨cs', _, _, ⟨rfl, _, _, _⟩, _, h5⟩ := h j hj
      have k0 := h5 0 _ rfl
      have k1 := h5 1 _ rfl
      have k2 := h5 2 _ rfl
      have k3 := h5 3 _ rfl
      simpa using ⟨k0, k1, k2, k3⟩
  · obtain ⟨z, hz, rfl⟩ := List.mem_map.1 hy
    rcases h2 with rfl | ⟨g, o, _, h⟩
    · cases hz
    · obtain ⟨j, hj, rfl⟩ := List.getElem_of_mem hz
      obtain ⟨cs', d, _, ⟨_, _, _, h4⟩, h5, _⟩ := h j hj
      omega
/-- a rule that came in, value by value -/
theorem rule_readv {fuel : Nat} {cs : List Value} {x : DataW H × List MemPlace} (hf : DataW.trod enc Tryd.prog W 0 (fun _ => true) true fuel 25 cs = some x) : ∃ y : RI, cs = [.bool y.r.bg, y.av, y.kv, y.pv, .bool y.r.en, y.rv, .int .i64 y.r.cu] ∧ y.In W ∧ (Rows.uptoBulk x.1 ≤ 1048576 → Sm y.r) := by
  obtain ⟨xs, k, hk, hxy, hcl, hxl, hff⟩ := DataW.trod_struct Tryd.underlying25 hf
  rw [cells25] at hcl
  match xs, hxl, cs, hcl with
  | [y0, y1, y2, y3, y4, y5, y6], _, [v0, v1, v2, v3, v4, v5, v6], _ =>
    have g0 := hff 0 _ rfl
    have g1 := hff 1 _ rfl
    have g2 := hff 2 _ rfl
    have g3 := hff 3 _ rfl
    have g4 := hff 4 _ rfl
    have g5 := hff 5 _ rfl
    have g6 := hff 6 _ rfl
    simp [cells3, cells4, cells22, cells23] at g0 g1 g2 g3 g4 g5 g6
    obtain ⟨b0, e0, _⟩ := DataW.trod_bool Tryd.underlying4 g0
    obtain ⟨w1, s1, l1, e1, k1, m1, n1⟩ := row_readv g1
    obtain ⟨w2, s2, l2, e2, k2, m2, n2⟩ := row_readv g2
    obtain ⟨w3, s3, l3, e3, k3, m3, n3⟩ := row_readv g3
    obtain ⟨b4, e4, _⟩ := DataW.trod_bool Tryd.underlying4 g4
    obtain ⟨w5, s5, l5, e5, k5, m5, n5⟩ := pieces_readv g5
    obtain ⟨c6, e6, _, _⟩ := DataW.trod_int Tryd.underlying3 g6
    simp only [List.cons.injEq, and_true] at e0 e1 e2 e3 e4 e5 e6
    subst e0 e1 e2 e3 e4 e5 e6
    have q : Rows.uptoBulk y1.1 + Rows.uptoBulk y2.1 + Rows.uptoBulk y3.1 + Rows.uptoBulk y5.1 ≤ Rows.uptoBulk x.1 := by
      rw [hxy]
      simp only [List.map_cons, List.map_nil, Rows.uptoBulk, Rows.uptoBulkAll]
      omega
    refine ⟨⟨⟨b0, b4, c6, l1, l2, l3, l5⟩, v1, v2, v3, v5, s1, s2, s3, s5⟩, rfl, ⟨k1, k2, k3, k5⟩, fun hq => ⟨by show l1.length ≤ _; omega, fun l hl => ?_, by show l2.length ≤ _; omega, fun l hl => ?_, by show l3.length ≤ _; omega, fun l hl => ?_, by show l5.length ≤ _; omega, fun l hl => ?_⟩⟩
    · have := n1 l hl; omega
    · have := n2 l hl; omega
    · have := n3 l hl; omega
    · have := n5 l hl; omega
end
end Go.Proofs.YtcfjdijmobgbpaaDoor
