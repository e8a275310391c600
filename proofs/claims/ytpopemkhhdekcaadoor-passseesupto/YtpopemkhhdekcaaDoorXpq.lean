/-
  A pass that came in, as the walks want it; how long its lists may be.
-/
import Derived.Test.YtpopemkhhdekcaaDoorXwq
import Derived.Test.YtpopemkhhdekcaaDoorMgaq
namespace Go.Proofs.YtpopemkhhdekcaaDoor
open Go.ChangeShapes Go.WideShapes Go.ChangeAt Go.RowKit Go.WideMaps Go.WideElems Go.Deep

set_option maxRecDepth 100000

section
variable {H : Type} {enc : TypeId × Value → H} {W : World}
theorem slice_max {t e : TypeId} {s : Nat} (ht : Tryd.prog.underlying t = some (.slice e)) (hs : Tryd.prog.cellsOf e = s) (hpos : 0 < s) {fuel : Nat} {cs : List Value} {x : DataW H × List MemPlace} (hf : DataW.trod enc Tryd.prog W 0 (fun _ => true) true fuel t cs = some x) : ∃ a n c, cs = [.slice a n c] ∧ n ≤ maxLen := by
  obtain ⟨a, cap, l, hcs, _, hm, _⟩ := slice_read (α := Unit) ht hs hpos (fun _ _ _ => True) (fun _ _ _ _ => ⟨(), trivial⟩) hf
  exact ⟨a, _, cap, hcs, hm⟩
/-- lists that an int can count -/
structure Lz (r : Rl) : Prop where
  na : r.ante.length ≤ maxLen
  nk : r.key.length ≤ maxLen
  np : r.post.length ≤ maxLen
  nr : r.res.length ≤ maxLen
theorem sr_len {w : World} {v : Value} {ls : List (List (Int × Int))} (h : SR w v ls) {a : Option Addr} {n c : Nat} (hv : v = .slice a n c) (hn : n ≤ maxLen) : ls.length ≤ maxLen := by
  obtain ⟨a', c', h1, _⟩ := h
  rw [hv] at h1
  cases h1
  exact hn
theorem pr_len {w : World} {v : Value} {ls : List Pc} (h : PR w v ls) {a : Option Addr} {n c : Nat} (hv : v = .slice a n c) (hn : n ≤ maxLen) : ls.length ≤ maxLen := by
  obtain ⟨a', c', h1, _⟩ := h
  rw [hv] at h1
  cases h1
  exact hn
theorem rule_lz {fuel : Nat} {cs : List Value} {x : DataW H × List MemPlace} (hf : DataW.trod enc Tryd.prog W 0 (fun _ => true) true fuel 53 cs = some x) {av kv pv rv : Value} {r : Rl} (hcs : cs = [.bool r.bg, av, kv, pv, .bool r.en, rv, .int .i64 r.cu]) (hR : RR W av kv pv rv r) : Lz r := by
  obtain ⟨xs, k, hk, hxy, hcl, hxl, hff⟩ := DataW.trod_struct Tryd.underlying53 hf
  subst hcs
  match xs, hxl with
  | [y0, y1, y2, y3, y4, y5, y6], _ =>
    have g1 := hff 1 _ rfl
    have g2 := hff 2 _ rfl
    have g3 := hff 3 _ rfl
    have g5 := hff 5 _ rfl
    simp [cells50, cells51] at g1 g2 g3 g5
    obtain ⟨a1, n1, c1, e1, m1⟩ := slice_max Tryd.underlying50 cells57 (by decide) g1
    obtain ⟨a2, n2, c2, e2, m2⟩ := slice_max Tryd.underlying50 cells57 (by decide) g2
    obtain ⟨a3, n3, c3, e3, m3⟩ := slice_max Tryd.underlying50 cells57 (by decide) g3
    obtain ⟨a5, n5, c5, e5, m5⟩ := slice_max Tryd.underlying51 cells59 (by decide) g5
    simp only [List.cons.injEq, and_true] at e1 e2 e3 e5
    exact ⟨sr_len hR.a e1 m1, sr_len hR.k e2 m2, sr_len hR.p e3 m3, pr_len hR.r e5 m5⟩
instance : Inhabited Rl := ⟨⟨false, false, 0, [], [], [], []⟩⟩
/-- a pass that came in -/
theorem pass_read {fuel : Nat} {cs : List Value} {x : DataW H × List MemPlace} (hf : DataW.trod enc Tryd.prog W 0 (fun _ => true) true fuel 24 cs = some x) : ∃ v rs, cs = [v] ∧ PsR W v rs ∧ rs.length ≤ maxLen ∧ (∀ r ∈ rs, Lz r) ∧ rs.length ≤ Rows.uptoBulk x.1 ∧ ∀ r ∈ rs, Small r (Rows.uptoBulk x.1) := by
  obtain ⟨xs, k, hk, hxy, hcl, hxl, hff⟩ := DataW.trod_struct Tryd.underlying24 hf
  rw [cells24] at hcl
  match xs, hxl, cs, hcl with
  | [y0], _, [v0], _ =>
    have g0 := hff 0 _ rfl
    simp [cells22] at g0
    obtain ⟨a, cap, l, hcs, h1, hm, hb, h2⟩ := slice_read Tryd.underlying22 cells53 (by decide) (fun cs d (r : Rl) => ∃ av kv pv rv, cs = [.bool r.bg, av, kv, pv, .bool r.en, rv, .int .i64 r.cu] ∧ RR W av kv pv rv r ∧ Lz r ∧ Small r (Rows.uptoBulk d)) (fun n cs x h => by
      obtain ⟨av, kv, pv, rv, r, e, h1, h2⟩ := rule_read h
      exact ⟨r, av, kv, pv, rv, e, h1, rule_lz h e h1, h2⟩) g0
    have hbk : Rows.uptoBulk y0.1 ≤ Rows.uptoBulk x.1 := by
      rw [hxy]
      simp only [List.map_cons, List.map_nil, Rows.uptoBulk, Rows.uptoBulkAll]
      omega
    have each : ∀ r ∈ l, Lz r ∧ Small r (Rows.uptoBulk x.1) := fun r hr => by
      rcases h2 with rfl | ⟨g, o, _, h⟩
      · cases hr
      · obtain ⟨j, hj, rfl⟩ := List.getElem_of_mem hr
        obtain ⟨cs', d, _, ⟨_, _, _, _, _, _, hz, hs⟩, h5, _⟩ := h j hj
        exact ⟨hz, hs.mono (Nat.le_trans h5 hbk)⟩
    simp only [List.cons.injEq, and_true] at hcs
    subst hcs
    refine ⟨_, l, rfl, ⟨a, cap, rfl, h1, h2.imp id ?_⟩, hm, fun r hr => (each r hr).1, Nat.le_trans hb hbk, fun r hr => (each r hr).2⟩
    rintro ⟨g, o, rfl, h⟩
    refine ⟨g, o, rfl, fun j hj => ?_⟩
    obtain ⟨cs', _, _, ⟨av, kv, pv, rv, rfl, hR, _, _⟩, _, h3⟩ := h j hj
    exact ⟨av, kv, pv, rv, h3 0 _ rfl, h3 1 _ rfl, h3 2 _ rfl, h3 3 _ rfl, h3 4 _ rfl, h3 5 _ rfl, h3 6 _ rfl, hR⟩
end
end Go.Proofs.YtpopemkhhdekcaaDoor
