/-
  Rules, rows of sets, pieces and numbers that came in, as the walks want them; how great they are.
-/
import Derived.Deep.SlicePairs
import Derived.SizedLaws
import Derived.Test.YtpopemkhhdekcaaDoorWdq
import Derived.Test.YtpopemkhhdekcaaDoorXyq
namespace Go.Proofs.YtpopemkhhdekcaaDoor
open Go.ChangeShapes Go.WideShapes Go.ChangeAt Go.RowKit Go.WideMaps Go.WideElems Go.Deep

set_option maxRecDepth 100000

theorem cells57 : Tryd.prog.cellsOf 57 = 1 := by kernel_rfl
theorem cells59 : Tryd.prog.cellsOf 59 = 4 := by kernel_rfl
theorem cells50 : Tryd.prog.cellsOf 50 = 1 := by kernel_rfl
theorem cells51 : Tryd.prog.cellsOf 51 = 1 := by kernel_rfl
theorem cells53 : Tryd.prog.cellsOf 53 = 7 := by kernel_rfl
theorem cells22 : Tryd.prog.cellsOf 22 = 1 := by kernel_rfl
theorem cells24 : Tryd.prog.cellsOf 24 = 1 := by kernel_rfl
theorem cells4 : Tryd.prog.cellsOf 4 = 1 := by kernel_rfl
theorem bulk_pos {H : Type} (d : DataW H) : 1 ≤ Rows.uptoBulk d := by
  cases d with
  | lit l => cases l <;> simp [Rows.uptoBulk]
  | _ => simp [Rows.uptoBulk]
theorem bulk_len {H : Type} : ∀ l : List (DataW H), l.length ≤ Rows.uptoBulkAll l
  | [] => by simp [Rows.uptoBulkAll]
  | d :: r => by
    have h1 := bulk_pos d
    have h2 := bulk_len r
    simp only [List.length_cons, Rows.uptoBulkAll]
    omega
theorem bulk_mem {H : Type} : ∀ (l : List (DataW H)) (d : DataW H), d ∈ l → Rows.uptoBulk d ≤ Rows.uptoBulkAll l
  | [], d, h => by cases h
  | e :: r, d, h => by
    simp only [Rows.uptoBulkAll]
    rcases List.mem_cons.1 h with rfl | h
    · omega
    · have := bulk_mem r d h
      omega
section
variable {H : Type} {enc : TypeId × Value → H} {W : World}
/-- a slice, element by element -/
theorem slice_read {α : Type} [Inhabited α] {t e : TypeId} {s : Nat} (ht : Tryd.prog.underlying t = some (.slice e)) (hs : Tryd.prog.cellsOf e = s) (hpos : 0 < s) (R : List Value → DataW H → α → Prop)
    (hR : ∀ n cs x, DataW.trod enc Tryd.prog W 0 (fun _ => true) true n e cs = some x → ∃ y, R cs x.1 y) {fuel : Nat} {cs : List Value} {x : DataW H × List MemPlace} (hf : DataW.trod enc Tryd.prog W 0 (fun _ => true) true fuel t cs = some x) :
    ∃ (a : Option Addr) (cap : Nat) (l : List α), cs = [.slice a l.length cap] ∧ l.length ≤ cap ∧ l.length ≤ maxLen ∧ l.length ≤ Rows.uptoBulk x.1 ∧ (l = [] ∨ ∃ g o, a = some ⟨g, o, none⟩ ∧ ∀ (j : Nat) (hj : j < l.length), ∃ cs' d, cs'.length = s ∧ R cs' d l[j] ∧ Rows.uptoBulk d ≤ Rows.uptoBulk x.1 ∧ ∀ i v, cs'[i]? = some v → W.cell? ⟨g, o + j * s + i, none⟩ = some v) := by
  rcases open_slice ht hf with ⟨hcs, hx⟩ | ⟨a, len, cap, m, n, D, Pl, hcs, _, hl, hml, hm, hx, hcell⟩
  · exact ⟨none, 0, [], by rw [hcs]; rfl, Nat.le_refl _, by simp, by simp, .inl rfl⟩
  · simp only [if_true] at hm
    subst hm
    rw [hs] at hcell
    have each : ∀ i, i < len → ∃ y : α, ∃ cs', cs'.length = s ∧ R cs' (D i) y ∧ ∀ k v, cs'[k]? = some v → W.cell? (a.add (i * s + k)) = some v := by
      intro i hi
      obtain ⟨cs', h1, h2⟩ := hcell i (by omega)
      obtain ⟨_, hlen, hc⟩ := World.cells?_some h1
      obtain ⟨y, hy⟩ := hR _ _ _ h2
      refine ⟨y, cs', hlen, hy, fun k v hv => ?_⟩
      have hk := (List.getElem?_eq_some_iff.1 hv).1
      have := hc k (by omega)
      rw [add_add] at this
      rw [this]
      exact hv
    obtain ⟨q, hq⟩ := choose_lt each
    have hlen : ((List.range len).map q).length = len := by simp
    have hbulk : ∀ i, i < len → Rows.uptoBulk (D i) ≤ Rows.uptoBulk x.1 := fun i hi => by
      rw [hx]
      simp only [Rows.uptoBulk]
      have := bulk_mem ((List.range len).map D) (D i) (List.mem_map.2 ⟨i, by simpa using hi, rfl⟩)
      omega
    have hbl : len ≤ Rows.uptoBulk x.1 := by
      rw [hx]
      simp only [Rows.uptoBulk]
      have := bulk_len ((List.range len).map D)
      simp only [List.length_map, List.length_range] at this
      omega
    refine ⟨some a, m, (List.range len).map q, by rw [hlen, hcs], by rw [hlen]; exact hl, by rw [hlen]; exact Nat.le_trans hl hml, by rw [hlen]; exact hbl, ?_⟩
    by_cases h0 : len = 0
    · exact .inl (by rw [h0]; rfl)
    · obtain ⟨b, off, spot⟩ := a
      have hspot : spot = none := by
        obtain ⟨cs', h1, h2, h3⟩ := hq 0 (by omega)
        have hlt : 0 < cs'.length := by omega
        have := h3 0 cs'[0] (List.getElem?_eq_getElem hlt)
        simpa [Addr.add] using World.cell?_spot this
      subst hspot
      refine .inr ⟨b, off, rfl, fun j hj => ?_⟩
      rw [hlen] at hj
      obtain ⟨cs', h1, h2, h3⟩ := hq j hj
      refine ⟨cs', D j, h1, by simpa using h2, hbulk j hj, fun i v hv => ?_⟩
      have := h3 i v hv
      rw [Addr.add_lit] at this
      rw [Nat.add_assoc]
      exact this
/-- a set that came in -/
theorem set_read {fuel : Nat} {cs : List Value} {x : DataW H × List MemPlace} (hf : DataW.trod enc Tryd.prog W 0 (fun _ => true) true fuel 57 cs = some x) : ∃ v l, cs = [v] ∧ Rs W v l ∧ l.length ≤ Rows.uptoBulk x.1 := by
  obtain ⟨a, cap, l, hcs, h1, _, hb, h2⟩ := slice_read Tryd.underlying57 cells92 (by decide) (fun cs _ (p : Int × Int) => cs = [.int .i64 p.1, .int .i64 p.2]) (fun n cs x h => by
    obtain ⟨xs, k, hk, hxy, hcl, hxl, hff⟩ := DataW.trod_struct Tryd.underlying92 h
    rw [cells92] at hcl
    match xs, hxl, cs, hcl with
    | [y0, y1], _, [v0, v1], _ =>
      have g0 := hff 0 _ rfl
      have g1 := hff 1 _ rfl
      simp [cells3] at g0 g1
      obtain ⟨n0, e0, _, _⟩ := DataW.trod_int Tryd.underlying3 g0
      obtain ⟨n1, e1, _, _⟩ := DataW.trod_int Tryd.underlying3 g1
      simp only [List.cons.injEq, and_true] at e0 e1
      subst e0 e1
      exact ⟨(n0, n1), rfl⟩) hf
  refine ⟨_, l, hcs, ⟨a, cap, rfl, h1, h2.imp id ?_⟩, hb⟩
  rintro ⟨g, o, rfl, h⟩
  refine ⟨g, o, rfl, fun j hj => ?_⟩
  obtain ⟨cs', _, _, rfl, _, h3⟩ := h j hj
  rw [rg_lt hj]
  exact ⟨h3 0 _ rfl, h3 1 _ rfl⟩
/-- a row of sets that came in -/
theorem row_read {fuel : Nat} {cs : List Value} {x : DataW H × List MemPlace} (hf : DataW.trod enc Tryd.prog W 0 (fun _ => true) true fuel 50 cs = some x) : ∃ v ls, cs = [v] ∧ SR W v ls ∧ ls.length ≤ Rows.uptoBulk x.1 ∧ ∀ l ∈ ls, l.length ≤ Rows.uptoBulk x.1 := by
  obtain ⟨a, cap, l, hcs, h1, _, hb, h2⟩ := slice_read Tryd.underlying50 cells57 (by decide) (fun cs d (l : List (Int × Int)) => ∃ v, cs = [v] ∧ Rs W v l ∧ l.length ≤ Rows.uptoBulk d) (fun n cs x h => by
    obtain ⟨v, l, e, h1, h2⟩ := set_read h
    exact ⟨l, v, e, h1, h2⟩) hf
  refine ⟨_, l, hcs, ⟨a, cap, rfl, h1, h2.imp id ?_⟩, hb, ?_⟩
  · rintro ⟨g, o, rfl, h⟩
    refine ⟨g, o, rfl, fun j hj => ?_⟩
    obtain ⟨cs', _, _, ⟨v, rfl, hv, _⟩, _, h3⟩ := h j hj
    have := h3 0 v rfl
    rw [Nat.mul_one] at this
    exact ⟨v, this, hv⟩
  · intro y hy
    rcases h2 with rfl | ⟨g, o, _, h⟩
    · cases hy
    · obtain ⟨j, hj, rfl⟩ := List.getElem_of_mem hy
      obtain ⟨cs', d, _, ⟨v, _, _, h4⟩, h5, _⟩ := h j hj
      omega
instance : Inhabited Pc := ⟨⟨0, 0, 0, []⟩⟩
/-- a row of pieces that came in -/
theorem pieces_read {fuel : Nat} {cs : List Value} {x : DataW H × List MemPlace} (hf : DataW.trod enc Tryd.prog W 0 (fun _ => true) true fuel 51 cs = some x) : ∃ v ps, cs = [v] ∧ PR W v ps ∧ ps.length ≤ Rows.uptoBulk x.1 ∧ ∀ p ∈ ps, p.tl.length ≤ Rows.uptoBulk x.1 := by
  obtain ⟨a, cap, l, hcs, h1, _, hb, h2⟩ := slice_read Tryd.underlying51 cells59 (by decide) (fun cs d (p : Pc) => ∃ v, cs = [.int .i64 p.k, .int .i64 p.u, .int .i64 p.y, v] ∧ Rs W v p.tl ∧ p.tl.length ≤ Rows.uptoBulk d) (fun n cs x h => by
    obtain ⟨xs, k, hk, hxy, hcl, hxl, hff⟩ := DataW.trod_struct Tryd.underlying59 h
    rw [cells59] at hcl
    match xs, hxl, cs, hcl with
    | [y0, y1, y2, y3], _, [v0, v1, v2, v3], _ =>
      have g0 := hff 0 _ rfl
      have g1 := hff 1 _ rfl
      have g2 := hff 2 _ rfl
      have g3 := hff 3 _ rfl
      simp [cells3, cells57] at g0 g1 g2 g3
      obtain ⟨n0, e0, _, _⟩ := DataW.trod_int Tryd.underlying3 g0
      obtain ⟨n1, e1, _, _⟩ := DataW.trod_int Tryd.underlying3 g1
      obtain ⟨n2, e2, _, _⟩ := DataW.trod_int Tryd.underlying3 g2
      obtain ⟨v, l, e3, h3, h4⟩ := set_read g3
      simp only [List.cons.injEq, and_true] at e0 e1 e2 e3
      subst e0 e1 e2 e3
      refine ⟨⟨n0, n1, n2, l⟩, v3, rfl, h3, Nat.le_trans h4 ?_⟩
      rw [hxy]
      simp only [List.map_cons, List.map_nil, Rows.uptoBulk, Rows.uptoBulkAll]
      omega) hf
  refine ⟨_, l, hcs, ⟨a, cap, rfl, h1, h2.imp id ?_⟩, hb, ?_⟩
  · rintro ⟨g, o, rfl, h⟩
    refine ⟨g, o, rfl, fun j hj => ?_⟩
    obtain ⟨cs', _, _, ⟨v, rfl, hv, _⟩, _, h3⟩ := h j hj
    exact ⟨v, h3 0 _ rfl, h3 1 _ rfl, h3 2 _ rfl, h3 3 _ rfl, hv⟩
  · intro y hy
    rcases h2 with rfl | ⟨g, o, _, h⟩
    · cases hy
    · obtain ⟨j, hj, rfl⟩ := List.getElem_of_mem hy
      obtain ⟨cs', d, _, ⟨v, _, _, h4⟩, h5, _⟩ := h j hj
      omega
/-- how great a rule is -/
structure Small (r : Rl) (n : Nat) : Prop where
  na : r.ante.length ≤ n
  sa : ∀ l ∈ r.ante, l.length ≤ n
  nk : r.key.length ≤ n
  sk : ∀ l ∈ r.key, l.length ≤ n
  np : r.post.length ≤ n
  sp : ∀ l ∈ r.post, l.length ≤ n
  nr : r.res.length ≤ n
  sr : ∀ p ∈ r.res, p.tl.length ≤ n
theorem Small.mono {r : Rl} {n m : Nat} (h : Small r n) (hm : n ≤ m) : Small r m :=
  ⟨Nat.le_trans h.na hm, fun l hl => Nat.le_trans (h.sa l hl) hm, Nat.le_trans h.nk hm, fun l hl => Nat.le_trans (h.sk l hl) hm, Nat.le_trans h.np hm, fun l hl => Nat.le_trans (h.sp l hl) hm, Nat.le_trans h.nr hm, fun l hl => Nat.le_trans (h.sr l hl) hm⟩
/-- a rule that came in -/
theorem rule_read {fuel : Nat} {cs : List Value} {x : DataW H × List MemPlace} (hf : DataW.trod enc Tryd.prog W 0 (fun _ => true) true fuel 53 cs = some x) : ∃ av kv pv rv r, cs = [.bool r.bg, av, kv, pv, .bool r.en, rv, .int .i64 r.cu] ∧ RR W av kv pv rv r ∧ Small r (Rows.uptoBulk x.1) := by
  obtain ⟨xs, k, hk, hxy, hcl, hxl, hff⟩ := DataW.trod_struct Tryd.underlying53 hf
  rw [cells53] at hcl
  match xs, hxl, cs, hcl with
  | [y0, y1, y2, y3, y4, y5, y6], _, [v0, v1, v2, v3, v4, v5, v6], _ =>
    have g0 := hff 0 _ rfl
    have g1 := hff 1 _ rfl
    have g2 := hff 2 _ rfl
    have g3 := hff 3 _ rfl
    have g4 := hff 4 _ rfl
    have g5 := hff 5 _ rfl
    have g6 := hff 6 _ rfl
    simp [cells3, cells4, cells50, cells51] at g0 g1 g2 g3 g4 g5 g6
    obtain ⟨b0, e0, _⟩ := DataW.trod_bool Tryd.underlying4 g0
    obtain ⟨w1, l1, e1, k1, m1, n1⟩ := row_read g1
    obtain ⟨w2, l2, e2, k2, m2, n2⟩ := row_read g2
    obtain ⟨w3, l3, e3, k3, m3, n3⟩ := row_read g3
    obtain ⟨b4, e4, _⟩ := DataW.trod_bool Tryd.underlying4 g4
    obtain ⟨w5, l5, e5, k5, m5, n5⟩ := pieces_read g5
    obtain ⟨c6, e6, _, _⟩ := DataW.trod_int Tryd.underlying3 g6
    simp only [List.cons.injEq, and_true] at e0 e1 e2 e3 e4 e5 e6
    subst e0 e1 e2 e3 e4 e5 e6
    have q : Rows.uptoBulk y1.1 + Rows.uptoBulk y2.1 + Rows.uptoBulk y3.1 + Rows.uptoBulk y5.1 ≤ Rows.uptoBulk x.1 := by
      rw [hxy]
      simp only [List.map_cons, List.map_nil, Rows.uptoBulk, Rows.uptoBulkAll]
      omega
    refine ⟨v1, v2, v3, v5, ⟨b0, b4, c6, l1, l2, l3, l5⟩, rfl, ⟨k1, k2, k3, k5⟩, ⟨by show l1.length ≤ _; omega, fun l hl => ?_, by show l2.length ≤ _; omega, fun l hl => ?_, by show l3.length ≤ _; omega, fun l hl => ?_, by show l5.length ≤ _; omega, fun l hl => ?_⟩⟩
    · have := n1 l hl; omega
    · have := n2 l hl; omega
    · have := n3 l hl; omega
    · have := n5 l hl; omega
end
end Go.Proofs.YtpopemkhhdekcaaDoor
