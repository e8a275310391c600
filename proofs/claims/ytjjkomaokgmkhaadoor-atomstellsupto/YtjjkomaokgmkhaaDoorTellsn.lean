/-
  AtomsTells, where what it reads is of bulk at most 1048576: for all sets, units and numbers, and every memory in which the table of blocks reads as it is laid: the call returns true; nothing that lay has turned.
-/
import Derived.Deep.SlicePairs
import Derived.SizedLaws
import Derived.Test.YtjjkomaokgmkhaaDoorXzn
import Derived.Test.YtjjkomaokgmkhaaDoorBbn
import Derived.Test.YtjjkomaokgmkhaaDoorOqn
namespace Go.Proofs.YtjjkomaokgmkhaaDoor
open Go.ChangeShapes Go.WideShapes Go.ChangeAt Go.RowKit Go.WideMaps Go.WideElems Go.Deep

theorem laidOut : laidOutB Tryd.prog = true := by kernel_rfl
theorem cells27 : Tryd.prog.cellsOf 27 = 1 := by kernel_rfl
theorem bulk_pos {H : Type} (d : DataW H) : 1 ≤ Rows.uptoBulk d := by
  cases d with
  | lit l => cases l <;> simp [Rows.uptoBulk]
  | _ => simp [Rows.uptoBulk]
theorem bulk_len {H : Type} : ∀ l : List (DataW H), l.length ≤ Rows.uptoBulkAll l
  | [] => by simp [Rows.uptoBulkAll]
  | d :: r => by
    have h1 := bulk_pos d
    have h2 := bulk_len r
    simp only [List.length_cons, Rows.uptoBulkAll]
    omega
theorem bulk_mem {H : Type} : ∀ (l : List (DataW H)) (d : DataW H), d ∈ l → Rows.uptoBulk d ≤ Rows.uptoBulkAll l
  | [], d, h => by cases h
  | e :: r, d, h => by
    simp only [Rows.uptoBulkAll]
    rcases List.mem_cons.1 h with rfl | h
    · omega
    · have := bulk_mem r d h
      omega
section
variable {H : Type} {enc : TypeId × Value → H} {W : World}
/-- a slice, element by element -/
theorem slice_read {α : Type} [Inhabited α] {t e : TypeId} {s : Nat} (ht : Tryd.prog.underlying t = some (.slice e)) (hs : Tryd.prog.cellsOf e = s) (hpos : 0 < s) (R : List Value → DataW H → α → Prop)
    (hR : ∀ n cs x, DataW.trod enc Tryd.prog W 0 (fun _ => true) true n e cs = some x → ∃ y, R cs x.1 y) {fuel : Nat} {cs : List Value} {x : DataW H × List MemPlace} (hf : DataW.trod enc Tryd.prog W 0 (fun _ => true) true fuel t cs = some x) :
    ∃ (a : Option Addr) (cap : Nat) (l : List α), cs = [.slice a l.length cap] ∧ l.length ≤ cap ∧ l.length ≤ maxLen ∧ l.length ≤ Rows.uptoBulk x.1 ∧ (l = [] ∨ ∃ g o, a = some ⟨g, o, none⟩ ∧ ∀ (j : Nat) (hj : j < l.length), ∃ cs' d, cs'.length = s ∧ R cs' d l[j] ∧ Rows.uptoBulk d ≤ Rows.uptoBulk x.1 ∧ ∀ i v, cs'[i]? = some v → W.cell? ⟨g, o + j * s + i, none⟩ = some v) := by
  rcases open_slice ht hf with ⟨hcs, hx⟩ | ⟨a, len, cap, m, n, D, Pl, hcs, _, hl, hml, hm, hx, hcell⟩
  · exact ⟨none, 0, [], by rw [hcs]; rfl, Nat.le_refl _, by simp, by simp, .inl rfl⟩
  · simp only [if_true] at hm
    subst hm
    rw [hs] at hcell
    have each : ∀ i, i < len → ∃ y : α, ∃ cs', cs'.length = s ∧ R cs' (D i) y ∧ ∀ k v, cs'[k]? = some v → W.cell? (a.add (i * s + k)) = some v := by
      intro i hi
      obtain ⟨cs', h1, h2⟩ := hcell i (by omega)
      obtain ⟨_, hlen, hc⟩ := World.cells?_some h1
      obtain ⟨y, hy⟩ := hR _ _ _ h2
      refine ⟨y, cs', hlen, hy, fun k v hv => ?_⟩
      have hk := (List.getElem?_eq_some_iff.1 hv).1
      have := hc k (by omega)
      rw [add_add] at this
      rw [this]
      exact hv
    obtain ⟨q, hq⟩ := choose_lt each
    have hlen : ((List.range len).map q).length = len := by simp
    have hbulk : ∀ i, i < len → Rows.uptoBulk (D i) ≤ Rows.uptoBulk x.1 := fun i hi => by
      rw [hx]
      simp only [Rows.uptoBulk]
      have := bulk_mem ((List.range len).map D) (D i) (List.mem_map.2 ⟨i, by simpa using hi, rfl⟩)
      omega
    have hbl : len ≤ Rows.uptoBulk x.1 := by
      rw [hx]
      simp only [Rows.uptoBulk]
      have := bulk_len ((List.range len).map D)
      simp only [List.length_map, List.length_range] at this
      omega
    refine ⟨some a, m, (List.range len).map q, by rw [hlen, hcs], by rw [hlen]; exact hl, by rw [hlen]; exact Nat.le_trans hl hml, by rw [hlen]; exact hbl, ?_⟩
    by_cases h0 : len = 0
    · exact .inl (by rw [h0]; rfl)
    · obtain ⟨b, off, spot⟩ := a
      have hspot : spot = none := by
        obtain ⟨cs', h1, h2, h3⟩ := hq 0 (by omega)
        have hlt : 0 < cs'.length := by omega
        have := h3 0 cs'[0] (List.getElem?_eq_getElem hlt)
        simpa [Addr.add] using World.cell?_spot this
      subst hspot
      refine .inr ⟨b, off, rfl, fun j hj => ?_⟩
      rw [hlen] at hj
      obtain ⟨cs', h1, h2, h3⟩ := hq j hj
      refine ⟨cs', D j, h1, by simpa using h2, hbulk j hj, fun i v hv => ?_⟩
      have := h3 i v hv
      rw [Addr.add_lit] at this
      rw [Nat.add_assoc]
      exact this
set_option maxRecDepth 100000 in
/-- a set that came in -/
theorem set_read {fuel : Nat} {cs : List Value} {x : DataW H × List MemPlace} (hf : DataW.trod enc Tryd.prog W 0 (fun _ => true) true fuel 27 cs = some x) : ∃ v l, cs = [v] ∧ Rs W v l ∧ l.length ≤ Rows.uptoBulk x.1 := by
  obtain ⟨a, cap, l, hcs, h1, _, hb, h2⟩ := slice_read Tryd.underlying27 cells29 (by decide) (fun cs _ (p : Int × Int) => cs = [.int .i64 p.1, .int .i64 p.2]) (fun n cs x h => by
    obtain ⟨xs, k, hk, hxy, hcl, hxl, hff⟩ := DataW.trod_struct Tryd.underlying29 h
    rw [cells29] at hcl
    match xs, hxl, cs, hcl with
    | [y0, y1], _, [v0, v1], _ =>
      have g0 := hff 0 _ rfl
      have g1 := hff 1 _ rfl
      simp [cells3] at g0 g1
      obtain ⟨n0, e0, _, _⟩ := DataW.trod_int Tryd.underlying3 g0
      obtain ⟨n1, e1, _, _⟩ := DataW.trod_int Tryd.underlying3 g1
      simp only [List.cons.injEq, and_true] at e0 e1
      subst e0 e1
      exact ⟨(n0, n1), rfl⟩) hf
  refine ⟨_, l, hcs, ⟨a, cap, rfl, h1, h2.imp id ?_⟩, hb⟩
  rintro ⟨g, o, rfl, h⟩
  refine ⟨g, o, rfl, fun j hj => ?_⟩
  obtain ⟨cs', _, _, rfl, _, h3⟩ := h j hj
  rw [rg_lt hj]
  exact ⟨h3 0 _ rfl, h3 1 _ rfl⟩
/-- a row of sets that came in -/
theorem row_read {fuel : Nat} {cs : List Value} {x : DataW H × List MemPlace} (hf : DataW.trod enc Tryd.prog W 0 (fun _ => true) true fuel 22 cs = some x) : ∃ v ls, cs = [v] ∧ SR W v ls ∧ ls.length ≤ Rows.uptoBulk x.1 ∧ ∀ l ∈ ls, l.length ≤ Rows.uptoBulk x.1 := by
  obtain ⟨a, cap, l, hcs, h1, _, hb, h2⟩ := slice_read Tryd.underlying22 cells27 (by decide) (fun cs d (l : List (Int × Int)) => ∃ v, cs = [v] ∧ Rs W v l ∧ l.length ≤ Rows.uptoBulk d) (fun n cs x h => by
    obtain ⟨v, l, e, h1, h2⟩ := set_read h
    exact ⟨l, v, e, h1, h2⟩) hf
  refine ⟨_, l, hcs, ⟨a, cap, rfl, h1, h2.imp id ?_⟩, hb, ?_⟩
  · rintro ⟨g, o, rfl, h⟩
    refine ⟨g, o, rfl, fun j hj => ?_⟩
    obtain ⟨cs', _, _, ⟨v, rfl, hv, _⟩, _, h3⟩ := h j hj
    have := h3 0 v rfl
    rw [Nat.mul_one] at this
    exact ⟨v, this, hv⟩
  · intro y hy
    rcases h2 with rfl | ⟨g, o, _, h⟩
    · cases hy
    · obtain ⟨j, hj, rfl⟩ := List.getElem_of_mem hy
      obtain ⟨cs', d, _, ⟨v, _, _, h4⟩, h5, _⟩ := h j hj
      omega
end
end Go.Proofs.YtjjkomaokgmkhaaDoor
namespace Go.Proofs.YtjjkomaokgmkhaaDoor
open Go.ChangeShapes Go.WideShapes Go.ChangeAt Go.RowKit Go.WideMaps Go.WideElems Go.Deep

section
variable {H : Type} {enc : TypeId × Value → H} {W : World}
set_option maxRecDepth 100000 in
/-- a row of numbers that came in -/
theorem ints_read {fuel : Nat} {cs : List Value} {x : DataW H × List MemPlace} (hf : DataW.trod enc Tryd.prog W 0 (fun _ => true) true fuel 23 cs = some x) : ∃ v l, cs = [v] ∧ IR W v l ∧ l.length ≤ Rows.uptoBulk x.1 := by
  obtain ⟨a, cap, l, hcs, h1, _, hb, h2⟩ := slice_read Tryd.underlying23 cells3 (by decide) (fun cs _ (p : Int) => cs = [.int .i64 p]) (fun n cs x h => by
    obtain ⟨n0, e0, _, _⟩ := DataW.trod_int Tryd.underlying3 h
    exact ⟨n0, e0⟩) hf
  refine ⟨_, l, hcs, ⟨a, cap, rfl, h1, h2.imp id ?_⟩, hb⟩
  rintro ⟨g, o, rfl, h⟩
  refine ⟨g, o, rfl, fun j hj => ?_⟩
  obtain ⟨cs', _, _, rfl, _, h3⟩ := h j hj
  have := h3 0 _ rfl
  rw [Nat.mul_one] at this
  exact this
end
set_option maxRecDepth 100000 in
theorem tells_contract (H : Type) (enc : TypeId × Value → H) (W : World) (base : Nat) (args : Array Value) (ds gs : List (DataW H)) (before : List MemPlace)
    (hval : ∀ (j : Nat) t v, Tryd.f3.params[j]? = some t → args[j]? = some v → Value.okWide Tryd.prog W .any base t v)
    (hW : DataW.Whole enc Tryd.prog Tryd.f3.params.toList Rows.atomsTellsSpec.vars false W args.toList ds gs before) (hL : laidMetH Tryd.prog Rows.atomsTellsRow.laid W) (hk : Rows.uptoSmall H (ds ++ gs) = true) :
    Calls Tryd.prog 3 args W fun e W' => ∃ v, e = .returned v ∧ Rows.atomsTellsSpec.post enc Tryd.prog Tryd.f3 false true false false W args v W' := by
  have hW' := hW
  obtain ⟨p, q, hA0, hV, rfl, hfz, hnd⟩ := hW
  have hA : DataW.TrodAll enc Tryd.prog W 0 (fun _ => true) true Tryd.f3.params.toList args.toList ds p := hA0
  rw [Tryd.params3] at hA hval
  obtain ⟨v0, vs0, d0, ds0, p0, q0, hargs, rfl, rfl, h0, r0⟩ := trodAll_cons hA
  obtain ⟨v1, vs1, d1, ds1, p1, q1, rfl, rfl, rfl, h1, r1⟩ := trodAll_cons r0
  obtain ⟨v2, vs2, d2, ds2, p2, q2, rfl, rfl, rfl, h2, r2⟩ := trodAll_cons r1
  obtain ⟨rfl, rfl, rfl⟩ := trodAll_nil r2
  obtain rfl : args = #[v0, v1, v2] := by cases args; simp_all
  obtain ⟨rfl, rfl⟩ := trodVars_none hV
  obtain ⟨a0, len0, cap0, rfl⟩ := okWide_slice Tryd.underlying22 (hval 0 22 v0 rfl rfl)
  obtain ⟨a1, len1, cap1, rfl⟩ := okWide_slice Tryd.underlying23 (hval 1 23 v1 rfl rfl)
  obtain ⟨u, rfl, rfl, rfl, wu⟩ := open_int Tryd.underlying3 (hval 2 3 v2 rfl rfl) h2
  have h0k := h0
  have h1k := h1
  obtain ⟨fuel0, hf0⟩ := h0
  obtain ⟨fuel1, hf1⟩ := h1
  obtain ⟨w0, ss, hc0, hR0, _, hS0⟩ := row_read (cs := [.slice a0 len0 cap0]) (by simpa [Value.cells] using hf0)
  obtain ⟨w1, us, hc1, hI1, hS1⟩ := ints_read (cs := [.slice a1 len1 cap1]) (by simpa [Value.cells] using hf1)
  obtain rfl : Value.slice a0 len0 cap0 = w0 := by simpa using hc0
  obtain rfl : Value.slice a1 len1 cap1 = w1 := by simpa using hc1
  obtain ⟨hn0, hcap0, vals, hLV⟩ := LV.of hR0
  have hb := of_decide_eq_true hk
  simp only [List.append_nil, Rows.uptoBulkAll] at hb
  have hS0x : ∀ s ∈ ss, s.length ≤ 1048576 := fun s hs => by have h : Rows.uptoBulk d0 ≤ 1048576 := (by omega); exact Nat.le_trans (hS0 s hs) h
  have hl1 : us.length = len1 := by obtain ⟨_, _, e, _⟩ := hI1; injection e with _ e _; exact e.symm
  have hS1x : len1 ≤ 1048576 := by have h : Rows.uptoBulk d1 ≤ 1048576 := (by omega); rw [← hl1]; exact Nat.le_trans hS1 h
  clear hA0
  simp only [List.append_nil] at hW'
  have hlt0 : ∀ y ∈ p0, y.block < W.heap.size := fun y hy => hW'.lt y (by simp [hy])
  have hlt1 : ∀ y ∈ p1, y.block < W.heap.size := fun y hy => hW'.lt y (by simp [hy])
  refine (tells_walk a0 len0 cap0 vals ss a1 len1 cap1 us u W (table hL) hn0.symm hLV hS0x hI1 hl1 hS1x).mono fun e W' ⟨he, hb⟩ => ?_
  subst he
  have harg0 := Below.trod laidOut (by kernel_rfl) (of_decide_eq_true (by kernel_rfl)) h0k hb hlt0
  have harg1 := Below.trod laidOut (by kernel_rfl) (of_decide_eq_true (by kernel_rfl)) h1k hb hlt1
  exact ⟨_, rfl, _, _, _, [], p0 ++ (p1 ++ ([] ++ [])), [], hW', trodAll_mk1 (shut_bool Tryd.underlying4 true), trodAll_cons_mk harg0 (trodAll_cons_mk harg1 (trodAll_cons_mk (shut_int Tryd.underlying3 wu) trodAll_mk0)), rfl, hb.frame _, fun h => by cases h⟩

noncomputable def laidWorldT (os : Os) : World :=
  { World.holding Tryd.prog os ⟨#[], #[], []⟩ with heap := (World.holding Tryd.prog os ⟨#[], #[], []⟩).heap.modify 0 fun
      | .cells _ t frozen => .cells blkV t frozen
      | o => o }
theorem tells_laid (os : Os) : laidMet Tryd.prog Rows.atomsTellsRow.laid ((laidWorldT os).forCall (fun _ _ => 0) ⟨#[], #[.slice none 0 0, .slice none 0 0, .int .i64 0], []⟩).memory :=
  laidMet_of_run' 8 (by kernel_rfl) (by kernel_rfl)
theorem tells_reads (os : Os) {H : Type} (enc : TypeId × Value → H) : ∃ places, DataW.whole enc Tryd.prog ((laidWorldT os).forCall (fun _ _ => 0) ⟨#[], #[.slice none 0 0, .slice none 0 0, .int .i64 0], []⟩).memory Tryd.f3.params.toList Rows.atomsTellsSpec.vars false (#[Value.slice none 0 0, Value.slice none 0 0, Value.int .i64 0] : Array Value).toList 8 = some ([.nil, .nil, .lit (.int .i64 0)], [], places) :=
  ⟨[], by kernel_rfl⟩

set_option maxRecDepth 100000 in
theorem tells_lifted (os : Os) (started : os.Started) (H : Type) (enc : TypeId × Value → H) (F : Stop.Interp) :
    ReturnsInHanded {} Tryd.checked os 3 .any ((Rows.OpenSpec.upto Rows.atomsTellsSpec).preRow enc Tryd.prog Tryd.f3 Rows.atomsTellsUptoRow.domain false Rows.atomsTellsUptoRow.laid) (((Rows.OpenSpec.upto Rows.atomsTellsSpec).at F).post enc Tryd.prog Tryd.f3 false true false false) := by
  obtain ⟨places, hx⟩ := tells_reads os enc
  refine returnsInHanded_of_row (C := Tryd.checked) (s := Rows.OpenSpec.upto Rows.atomsTellsSpec) own started (by kernel_rfl) Tryd.func3
    (witness_row_at (enc := enc) (C := Tryd.checked) false (laidWorldT os) #[.slice none 0 0, .slice none 0 0, .int .i64 0] rfl (by kernel_rfl) (by kernel_rfl) (by kernel_rfl)
      (OpenSpec.preRow_of_cond 8 hx (by kernel_rfl) (fun k hk => by cases hk; kernel_rfl) (by kernel_rfl) (tells_laid os))) ?_
  intro W base args ds gs before hval hW _ hcond _ hL _ _
  exact tells_contract H enc W base args ds gs before hval hW hL (hcond _ rfl)

theorem tells_said : Rows.AtomsTellsUptoSaid :=
  OpenClaim.holds_of_cond 3 Tryd.f3 rfl rfl rfl rfl rfl rfl rfl ⟨rfl, rfl, rfl, rfl, rfl⟩ rfl rfl rfl rfl rfl (by kernel_rfl) Tryd.func3 (by kernel_rfl)
    (of_decide_eq_true (by kernel_rfl)) (by unfold Func.isWrapper; first | (rw [if_pos (by decide +kernel)]; kernel_rfl) | (rw [if_neg (by decide +kernel)]; exact ⟨rfl, rfl⟩))
    (fun os started H enc _ F => by rw [OpenClaim.pre_eq_preRow]; exact tells_lifted os started H enc F)

theorem tells_plain (f : FuncId) (fn : Func) (hf : Tryd.pinned.checked.prog.funcNamed "respell/respelllaw11.AtomsTells" = some f) (hfn : Tryd.pinned.checked.prog.funcs[f]? = some fn) :
    false = Tryd.pinned.checked.prog.looks [] ∧ ∀ (j : Nat) t, fn.params[j]? = some t → Tryd.pinned.checked.prog.wantsStandIn t = false := by
  obtain rfl : f = 3 := Option.some.inj ((show Tryd.prog.funcNamed "respell/respelllaw11.AtomsTells" = some 3 by kernel_rfl).symm.trans hf) |>.symm
  obtain rfl : fn = Tryd.f3 := (Option.some.inj (Tryd.func3.symm.trans hfn)).symm
  refine ⟨by kernel_rfl, fun j t ht => ?_⟩
  rw [Tryd.params3] at ht
  have h2 : t = 22 ∨ t = 23 ∨ t = 3 := by have := Array.mem_of_getElem? ht; simp at this; omega
  rcases h2 with rfl | rfl | rfl
  · exact (show Tryd.prog.wantsStandIn 22 = false by kernel_rfl)
  · exact (show Tryd.prog.wantsStandIn 23 = false by kernel_rfl)
  · exact (show Tryd.prog.wantsStandIn 3 = false by kernel_rfl)

theorem tells_card : Rows.AtomsTellsUptoCardSaid :=
  Claim7.holds_tied_plain_at .later [] _ _ _ _ tells_said (fun _ h => by cases h) (by kernel_rfl) (fun _ h => by cases h) atomsTellsUpto_row_tie rfl ⟨rfl, rfl⟩ (by kernel_rfl) rfl tells_plain (by kernel_rfl)
end Go.Proofs.YtjjkomaokgmkhaaDoor
