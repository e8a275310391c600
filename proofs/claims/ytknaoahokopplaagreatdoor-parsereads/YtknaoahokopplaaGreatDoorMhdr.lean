/-
  Several texts in one (V0r V1r).
-/
import Derived.Test.YtknaoahokopplaaGreatDoorYzr
namespace Go.Proofs
open Go.RowKit Go.Shelf

theorem qline_any {R : Nat} {tA : Option Addr} {c : Nat} {all : List Tok} {e : Int} {w : World} {k : Nat} (h : RQ R tA c all e w k 0 0) (hlt : k < all.length) :
    Calls Tryz.prog 30 #[.pointer (some ⟨R, 0, none⟩)] w (OutQ R tA c all e w (VL 3 w.heap.size) ShL (lineT e (all.drop k))) := by
  obtain ⟨t, r, hd⟩ : ∃ t r, all.drop k = t :: r := ⟨_, _, List.drop_eq_getElem_cons hlt⟩
  by_cases h1 : which t = 116
  · exact qline_then h hd h1
  by_cases h2 : which t = 36 ∧ nxt r = 21
  · obtain ⟨h36, h21⟩ := h2
    cases r with
    | nil => exact absurd h21 (by decide)
    | cons t2 r2 => exact qline_def h hd h36 h21
  · exact qline_rule h hd h1 h2
/-- lines ahead of what is told -/
def preL (pre : List Ln) (s : Res (List Ln)) : Res (List Ln) := s.bind fun ls r => .ok (pre ++ ls) r
theorem preL_step (e : Int) (pre : List Ln) (f : Nat) {ts : List Tok} (h : nxt ts ≠ 0) : preL pre (linesT e (f + 1) ts) = (lineT e ts).bind fun l r => preL (pre ++ [l]) (linesT e f r) := by
  unfold preL
  rw [linesT, if_neg h, bind_assoc]
  congr 1
  funext l r
  rw [bind_assoc]
  congr 1
  funext ls r2
  simp [Res.bind]
theorem preL_end (e : Int) (pre : List Ln) (f : Nat) : preL pre (linesT e f []) = .ok pre [] := by
  unfold preL
  cases f <;> simp [linesT, nxt, Res.bind]
theorem nz_line (e : Int) (ts : List Tok) : NZ (lineT e ts) := by
  intro a c hl
  have hb : nxt ts = 0 ∨ linesT e 1 ts = .no a c := by
    by_cases h0 : nxt ts = 0
    · exact .inl h0
    · refine .inr ?_
      rw [linesT, if_neg h0, hl]
      rfl
  rcases hb with h0 | h0
  · intro hc
    subst hc
    unfold lineT at hl
    cases hs : someT e ts with
    | no a' c' =>
      rw [hs] at hl
      cases hl
      exact nz_some e ts _ _ hs rfl
    | ok l r =>
      rw [hs] at hl
      have hl2 : ((wantT e 11 r).bind fun _ r2 => (.ok { l with a := atOf e ts } r2 : Res Ln)) = .no a 0 := hl
      cases hw : wantT e 11 r with
      | no a' c' =>
        rw [hw] at hl2
        cases hl2
        exact nz_want e 11 r _ _ hw rfl
      | ok u r2 =>
        rw [hw] at hl2
        cases hl2
  · exact nz_lines e 1 ts a c h0
/-- a line behind a row, whatever it means -/
theorem push_GL {ops : Array Oper} {rest : List Oper} {o : Oper} {a : Act} {Q : Exit → Act → World → Prop} {w : World} (hgd : o.guard = none) (s x : Operand)
    (ho : o.op = .call { callee := .builtin .append, args := #[s, x], argTypes := #[29, 29] })
    (b : Nat) (v : Value) (n : Nat) (ms : List ML) (hs : a.eval s = v) (hown : w.ownsRow b 44 10 v n (fl10 ms)) (hn : ms.length = n) (g c : Nat) (m : ML) (hx : a.eval x = .slice (some ⟨g, 0, none⟩) 1 c)
    (hy : w.heap[g]? = some (.cells (ml1 m).toArray 44 (0, 0))) (hl : n + 1 ≤ 1000000) (hbase : b ≤ w.heap.size)
    (h : ∀ A c' w', w'.ownsRow b 44 10 (.slice A (n + 1) c') (n + 1) (fl10 (ms ++ [m])) → w.grownBy w' v.ownBlock → wpList Tryz.prog ops Q rest (a.put o.dst (.slice A (n + 1) c')) w') : wpList Tryz.prog ops Q (o :: rest) a w := by
  obtain ⟨i0, hi, hz0, hz1, hz2⟩ := info_parts info39
  refine wpList_append_own w hgd s x 29 ho b 44 i0 _ 10 144 Tryz.underlying29 hi hz0 hz1 hz2 rfl (by decide) v n (fl10 ms) hs hown ⟨g, 0, none⟩ 1 c (fl10 [m]) hx rfl ?_ (fl10_one _) (by unfold maxLen; omega) (by omega) hbase (fun v' w' k2 k3 _ => ?_)
  · intro j u hj
    have e : (fl10 [m]) = ml1 m := by simp [fl10]
    rw [e] at hj
    rw [add_zero_at']
    simp only [World.cell?, hy]
    simpa using hj
  · have hf : ∃ A c', v' = .slice A (n + 1) c' := by
      rcases k2.2 with ⟨e, h0⟩ | ⟨g, cap, cur, e, _⟩
      · omega
      · exact ⟨_, _, e⟩
    obtain ⟨A, c', rfl⟩ := hf
    refine h A c' w' ?_ k3
    rw [fl10_append]
    exact k2
/-- all lines on their way: the fault's block, the reader R, the rows behind it -/
structure PQ (w : World) (R : Nat) (tA : Option Addr) (c : Nat) (all : List Tok) (e : Int) (W : World) (S : Res (List Ln)) (f : Nat) (k : Nat) (fa fc : Int) (v : Value) : Prop where
  below : Below w.heap.size w W
  fb : FB W w.heap.size 0 0
  rq : RQ R tA c all e W k fa fc
  Rgt : w.heap.size < R
  glt : ∀ g, tA = some ⟨g, 0, none⟩ → all ≠ [] → g < R
  row : ∃ ms A n cc, v = .slice A n cc ∧ ms.length = n ∧ n ≤ 32769 ∧ W.ownsRow (R + 1) 44 10 (.slice A n cc) n (fl10 ms)
  fine : fc = 0 → fa = 0 ∧ ∃ pre A cc f1, v = .slice A pre.length cc ∧ OwnL W (R + 1) v pre ∧ pre.length + (all.length - k) ≤ all.length ∧ all.length - k ≤ f1 ∧ S = preL pre (linesT e f1 (all.drop k)) ∧ f = 2 * (all.length - k) + 1
  bad : fc ≠ 0 → S = .no fa fc ∧ f = 0
theorem PQ.grown {w : World} {R : Nat} {tA : Option Addr} {c : Nat} {all : List Tok} {e : Int} {W W' : World} {S : Res (List Ln)} {f k : Nat} {fa fc : Int} {v : Value} (h : PQ w R tA c all e W S f k fa fc v) (hg : Grown W W') : PQ w R tA c all e W' S f k fa fc v := by
  have hb := hg.below
  refine ⟨h.below.trans (hb.mono h.below.size), h.fb.below hb h.fb.lt, h.rq.after hb, h.Rgt, h.glt, ?_, fun e0 => ?_, h.bad⟩
  · obtain ⟨ms, A, n, cc, e1, e2, e3, e4⟩ := h.row
    refine ⟨ms, A, n, cc, e1, e2, e3, e4.1, e4.2.imp id ?_⟩
    rintro ⟨g, cap, cur, k1, k2, k3, k4⟩
    exact ⟨g, cap, cur, k1, k2, (hb.block g (Array.getElem?_eq_some_iff.1 k3).1).trans k3, k4⟩
  · obtain ⟨h1, pre, A, cc, f1, h2, h3, h4⟩ := h.fine e0
    exact ⟨h1, pre, A, cc, f1, h2, h3.step (fun k h1 _ => hb.block k h1), h4⟩
theorem ownL0 (w : World) (b : Nat) (hb : b ≤ w.heap.size) : (w.alloc (.cells #[] 44)).ownsRow b 44 10 (.slice (some ⟨w.heap.size, 0, none⟩) 0 0) 0 (fl10 []) :=
  ⟨rfl, .inr ⟨w.heap.size, 0, #[], rfl, hb, World.alloc_heap_new _ _, Nat.le_refl _, by unfold maxLen; omega, rfl, rfl⟩⟩
end Go.Proofs
namespace Go.Proofs
open Go.RowKit Go.Shelf

set_option maxRecDepth 100000
attribute [local go_sem] Oper.semAt_some

set_option maxHeartbeats 16000000 in
theorem qparse_run (s : ByteArray) (toks : List Tok) (fa : Nat) (fe : Int) (hs : s.size ≤ 32768) (hR : RRun s 0 true toks fa fe) (hg : ∀ t ∈ toks, GoodU t) (hl : toks.length ≤ 32768) (w : World) :
    Calls Tryz.prog 14 #[.string s] w (PO w s.size toks fa fe) := by
  have HR : Hid (RRun s 0 true toks fa fe ∧ ∀ t, t ∈ toks → GoodU t) := ⟨hR, hg⟩
  clear hR hg
  go_enter Tryz.func14, Tryz.ntmps14
  go_wp2_with fail
  refine (rscan_run s toks fa fe hs HR.out.1 _).mono ?_
  rintro x w1 ⟨v, rfl, hv, hb1⟩
  have hF1 : FB w1 w.heap.size 0 0 := (FB.new w 0 0).below hb1 (by simp)
  have hB1 : Below w.heap.size w w1 := ((Below.refl _ w).alloc (Nat.le_refl _) _).trans (hb1.mono (by simp))
  by_cases hfe : fe = 0
  · subst hfe
    rw [if_pos rfl] at hv
    obtain ⟨A, c, rfl, hrt⟩ := hv.rt
    have hz1 := hF1.lt
    obtain ⟨S, hS⟩ : ∃ S, linesT s.size toks.length toks = S := ⟨_, rfl⟩
    have hgl : ∀ g, A = some ⟨g, 0, none⟩ → toks ≠ [] → g < w1.heap.size := by
      intro g e0 h0
      rcases hrt with h | ⟨g', e1, hr⟩
      · exact absurd h h0
      · rw [e1] at e0
        cases e0
        cases toks with
        | nil => exact absurd rfl h0
        | cons t ts =>
          obtain ⟨o, ho, _⟩ := cells_of_cell (hr 0 t rfl).1
          exact (Array.getElem?_eq_some_iff.1 ho).1
    have hP : PQ w (w1.heap.size + 1) A c toks s.size (((w1.alloc (.cells #[.int .i64 fa, .int .i64 0] 32)).alloc (.cells #[.slice A toks.length c, .int .i64 0, .int .i64 s.size, .int .i64 0, .int .i64 0] 62)).alloc (.cells #[] 44)) S (2 * toks.length + 1) 0 0 0 (.slice (some ⟨w1.heap.size + 1 + 1, 0, none⟩) 0 0) := by
      have hb3 : Below w1.heap.size w1 (((w1.alloc (.cells #[.int .i64 fa, .int .i64 0] 32)).alloc (.cells #[.slice A toks.length c, .int .i64 0, .int .i64 s.size, .int .i64 0, .int .i64 0] 62)).alloc (.cells #[] 44)) := (((Below.refl _ w1).alloc (Nat.le_refl _) _).alloc (by simp) _).alloc (by simp; omega) _
      have hblk : (((w1.alloc (.cells #[.int .i64 fa, .int .i64 0] 32)).alloc (.cells #[.slice A toks.length c, .int .i64 0, .int .i64 s.size, .int .i64 0, .int .i64 0] 62)).alloc (.cells #[] 44)).heap[w1.heap.size + 1]? = some (.cells #[.slice A toks.length c, .int .i64 0, .int .i64 s.size, .int .i64 0, .int .i64 0] 62 (0, 0)) := by
        have h2 := World.alloc_heap_new (w1.alloc (.cells #[.int .i64 fa, .int .i64 0] 32)) (.cells #[.slice A toks.length c, .int .i64 0, .int .i64 s.size, .int .i64 0, .int .i64 0] 62)
        rw [World.size_alloc] at h2
        exact (Below.heap_alloc _ _ _ (by simp)).trans h2
      have hown : (((w1.alloc (.cells #[.int .i64 fa, .int .i64 0] 32)).alloc (.cells #[.slice A toks.length c, .int .i64 0, .int .i64 s.size, .int .i64 0, .int .i64 0] 62)).alloc (.cells #[] 44)).ownsRow (w1.heap.size + 1 + 1) 44 10 (.slice (some ⟨w1.heap.size + 1 + 1, 0, none⟩) 0 0) 0 (fl10 []) := by
        have h3 := ownL0 ((w1.alloc (.cells #[.int .i64 fa, .int .i64 0] 32)).alloc (.cells #[.slice A toks.length c, .int .i64 0, .int .i64 s.size, .int .i64 0, .int .i64 0] 62)) (w1.heap.size + 1 + 1) (by simp)
        simpa using h3
      refine ⟨hB1.trans (hb3.mono (by omega)), hF1.below hb3 hz1, ⟨hblk, ?_, by omega, HR.out.2, hl⟩, by omega, fun g e0 h0 => by have := hgl g e0 h0; omega, ⟨[], _, _, _, rfl, rfl, by omega, hown⟩, fun _ => ⟨rfl, [], _, _, toks.length, rfl, ⟨[], hown, trivial⟩, by simp, by simp, ?_, by simp⟩, fun h => absurd rfl h⟩
      · rcases hrt with h | ⟨g, e1, hr⟩
        · exact .inl h
        · by_cases h0 : toks = []
          · exact .inl h0
          · have hlt := hgl g e1 h0
            refine .inr ⟨g, e1, fun j x hj => ?_, by omega⟩
            obtain ⟨a0, a1, a2, a3, a4, a5⟩ := hr j x hj
            have ck := ck_below hb3
            exact ⟨ck _ _ a0, ck _ _ a1, ck _ _ a2, ck _ _ a3, ck _ _ a4, ck _ _ a5⟩
      · rw [← hS, List.drop_zero]
        unfold preL
        cases linesT s.size toks.length toks <;> simp [Res.bind]
    have HP := hidm hP
    have HS : Hid (linesT s.size toks.length toks = S) := hS
    clear hP hS hgl hrt hv hb1 hF1 hB1
    go_wp2_with fail
    go_loopg [7] (2 * toks.length + 1) (fun f v7 wr => Hid (∃ k1 fa fc, PQ w (w1.heap.size + 1) A c toks s.size wr S f k1 fa fc v7))
    case atStart => exact ⟨_, _, _, HP.out⟩
    case round =>
      clear HP
      obtain ⟨wo, rfl⟩ : ∃ wo, wo = wr := ⟨_, rfl⟩
      obtain ⟨k1, fa1, fc, hP⟩ := hrel.out
      clear hrel
      have HP : Hid (PQ w (w1.heap.size + 1) A c toks s.size wo S gk k1 fa1 fc u7) := hP
      clear hP
      have HC : Hid (∀ q os, Calls Tryz.prog 29 #[.pointer (some ⟨w1.heap.size + 1, 0, none⟩)] (Go.Sort.grow (wo.drewN q) os) fun x w' => x = .returned (.bool (fc == 0)) ∧ Grown (Go.Sort.grow (wo.drewN q) os) w') := fun q os => by
        refine (fine_any (HP.out.rq.grown ((Grown.refl wo).quiet q os))).mono ?_
        rintro x w' ⟨rfl, rfl⟩
        exact ⟨rfl, Grown.refl _⟩
      have hR1 := HP.out.rq.cells
      have d0 := fun q os => ((Grown.refl wo).quiet q os).cellv hR1.1
      have d1 := fun q os => ((Grown.refl wo).quiet q os).cellv hR1.2.1
      clear hR1
      by_cases hfc : fc = 0
      · subst hfc
        rw [show ((0 : Int) == 0) = true from rfl] at HC
        obtain ⟨hfa, pre, A1, cc, f1, hv, hO, hn, hf1, hS, hf⟩ := HP.out.fine rfl
        subst hfa
        subst hv
        have hkle := HP.out.rq.kle
        by_cases hlt : k1 < toks.length
        · have d2 : decide ((k1 : Int) < (toks.length : Int)) = true := by simpa using hlt
          obtain ⟨f2, rfl⟩ : ∃ f2, f1 = f2 + 1 := ⟨f1 - 1, by omega⟩
          have hn0 : nxt (toks.drop k1) ≠ 0 := fun h => by
            have := (nxt_kd (HP.out.rq.goodD k1)).2.2.2.1 h
            have h3 := congrArg List.length this
            simp at h3
            omega
          rw [preL_step s.size pre f2 hn0] at hS
          have HF : Hid (S = ((lineT s.size (toks.drop k1)).bind fun l r => preL (pre ++ [l]) (linesT s.size f2 r)) ∧ gk = 2 * (toks.length - k1) + 1 ∧ pre.length + (toks.length - k1) ≤ toks.length ∧ toks.length - k1 ≤ f2 + 1) := ⟨hS, hf, hn, hf1⟩
          have hpl : pre.length ≤ 32768 := by omega
          have HO := hidm hO
          clear hO hS hf hn hn0 hf1
          go_wp2_with fail
          refine wp_region_quiet_grown mixed (by kernel_rfl) ?_
          repeat (go_big_quiet_step ((go_at_call 29; exact grown_of (HC.out _ _))))
          refine wpQuiet_nil ?_
          intro _ hw'
          obtain ⟨⟨nq, osq⟩, hw''⟩ := hw'
          subst hw''
          have hgr := (Grown.refl wo).quiet nq osq
          have HP2 : Hid (PQ w (w1.heap.size + 1) A c toks s.size (Go.Sort.grow (wo.drewN nq) osq) S gk k1 0 0 (.slice A1 pre.length cc) ∧ OwnL (Go.Sort.grow (wo.drewN nq) osq) (w1.heap.size + 1 + 1) (.slice A1 pre.length cc) pre) := ⟨HP.out.grown hgr, HO.out.step (fun k h1 _ => hgr.below.block k h1)⟩
          clear hgr
          generalize Go.Sort.grow (wo.drewN nq) osq = W2 at HP2 ⊢
          clear d0 d1 HC HP HO
          go_wp2_with fail
          refine (qline_any HP2.out.1.rq hlt).mono ?_
          intro x w7 hx
          obtain ⟨hm, hx⟩ := hx
          have hRW : w1.heap.size + 1 < W2.heap.size := HP2.out.1.rq.lt
          have HM : Hid (OwnL w7 (w1.heap.size + 1 + 1) (.slice A1 pre.length cc) pre ∧ FB w7 w.heap.size 0 0 ∧ Below w.heap.size w w7 ∧ W2.heap.size ≤ w7.heap.size ∧ ∀ g, (Value.slice A1 pre.length cc).ownBlock = some g → g < W2.heap.size) :=
            ⟨HP2.out.2.step (fun k h1 h2 => hm.block k h1 (by omega) (by simp)), (hm.block w.heap.size HP2.out.1.fb.lt (by omega) (by simp)).trans HP2.out.1.fb, HP2.out.1.below.trans (hm.below (n := w.heap.size) (by omega) (by omega) (fun g e => by cases e)), hm.size, fun g h => (HP2.out.2.lt g h).2⟩
          have HG : Hid (∀ g, A = some ⟨g, 0, none⟩ → toks ≠ [] → g < w1.heap.size + 1) := HP2.out.1.glt
          have hz7 : w1.heap.size + 1 < w7.heap.size := by have := HM.out.2.2.2.1; omega
          cases hp : lineT s.size (toks.drop k1) with
          | no a cd =>
            rw [hp] at hx
            obtain ⟨v, k', rfl, ⟨m, rfl⟩, hr⟩ := hx
            have hcd : cd ≠ 0 := nz_line s.size _ a cd hp
            have HQ : Hid (RQ (w1.heap.size + 1) A c toks s.size w7 k' a cd ∧ cd ≠ 0 ∧ S = .no a cd) := ⟨hr, hcd, by rw [HF.out.1, hp]; rfl⟩
            clear hm hr hcd hp
            obtain ⟨ms, hms, ha2⟩ := HM.out.1
            have HN : Hid (w7.ownsRow (w1.heap.size + 1 + 1) 44 10 (.slice A1 pre.length cc) pre.length (fl10 ms) ∧ ms.length = pre.length) := ⟨by have h0 := hms; rw [ha2.length] at h0; exact h0, ha2.length⟩
            clear hms ha2
            go_wp2_with (first | (at_builtin; go_must (refine push_GL rfl _ _ rfl (w1.heap.size + 1 + 1) _ pre.length ms rfl (World.ownsRow.alloc HN.out.1 _) HN.out.2 w7.heap.size 1 m rfl (World.alloc_heap_new _ _) (by omega) (by simp; omega) ?_); intro A8 c8 w8 hO8 hg8) | fail)
            have hlo := HN.out.1.lt
            have hb8 : ∀ b, b < w1.heap.size + 1 + 1 → w8.heap[b]? = w7.heap[b]? := fun b hb => (hg8.block b (by simp; omega) (fun h => by have := (hlo b h.symm).1; omega)).trans (Below.heap_alloc _ _ _ (by omega))
            have hsz := HM.out.2.2.1.size
            have HE : Hid (PQ w (w1.heap.size + 1) A c toks s.size w8 S 0 k' a cd (.slice A8 (pre.length + 1) c8)) :=
              ⟨(HM.out.2.2.1.alloc hsz _).trans ((Below.refl w.heap.size _).grown hg8 (by simp; omega) (fun k hk => by have := (hlo k hk).1; omega)), (hb8 _ (by omega)).trans HM.out.2.1, HQ.out.1.low (N := w1.heap.size + 1 + 1) (by omega) (fun g e0 h0 => by have := HG.out g e0 h0; omega) hb8, by omega, HG.out, ⟨ms ++ [m], _, _, _, rfl, by rw [List.length_append, HN.out.2]; rfl, by omega, hO8⟩, fun h => absurd h HQ.out.2.1, fun _ => ⟨HQ.out.2.2, rfl⟩⟩
            have HK : Hid (gk = 2 * (toks.length - k1) + 1) := HF.out.2.1
            clear hO8 hg8 hlo hb8 hsz
            go_roundg 0
            case measure => have := HK.out; omega
            case rel => exact ⟨_, _, _, HE.out⟩
          | ok l r =>
            rw [hp] at hx
            obtain ⟨v, k', rfl, ⟨m, rfl, hL⟩, hdr, hr⟩ := hx
            have hle := line_le hp
            have hk' := hr.kle
            have hdl : toks.length - k' + 1 ≤ toks.length - k1 := by
              rw [← hdr] at hle
              simpa using hle
            have HQ : Hid (RQ (w1.heap.size + 1) A c toks s.size w7 k' 0 0 ∧ S = preL (pre ++ [l]) (linesT s.size f2 (toks.drop k')) ∧ LR 3 w7 W2.heap.size none m l) := ⟨hr, by rw [HF.out.1, hp, hdr]; rfl, hL⟩
            clear hm hr hp hdr hL hle
            go_wp2_with (first | (at_builtin; go_must (refine push_L rfl _ _ 29 rfl Tryz.underlying29 (w1.heap.size + 1 + 1) _ pre rfl (HM.out.1.step (fun k h1 _ => Below.heap_alloc _ _ _ h1)) w7.heap.size 1 m l rfl (World.alloc_heap_new _ _) (HQ.out.2.2.step (by omega) (.inr (.inr fun g h => .inr (HM.out.2.2.2.2 g h))) (fun k h1 _ _ => Below.heap_alloc _ _ _ h1)) (by omega) (by simp; omega) ?_); intro A8 c8 w8 hO8 hg8 hob8) | fail)
            have hlo := HM.out.1.lt
            have hb8 : ∀ b, b < w1.heap.size + 1 + 1 → w8.heap[b]? = w7.heap[b]? := fun b hb => (hg8.block b (by simp; omega) (fun h => by have := (hlo b h.symm).1; omega)).trans (Below.heap_alloc _ _ _ (by omega))
            have hsz := HM.out.2.2.1.size
            have hn1 := HF.out.2.2.1
            have hn2 := HF.out.2.2.2
            have HE : Hid (PQ w (w1.heap.size + 1) A c toks s.size w8 S (2 * (toks.length - k') + 1) k' 0 0 (.slice A8 (pre.length + 1) c8)) := by
              refine ⟨(HM.out.2.2.1.alloc hsz _).trans ((Below.refl w.heap.size _).grown hg8 (by simp; omega) (fun k hk => by have := (hlo k hk).1; omega)), (hb8 _ (by omega)).trans HM.out.2.1, HQ.out.1.low (N := w1.heap.size + 1 + 1) (by omega) (fun g e0 h0 => by have := HG.out g e0 h0; omega) hb8, by omega, HG.out, ?_, fun _ => ⟨rfl, pre ++ [l], A8, c8, f2, by rw [List.length_append]; rfl, hO8, by rw [List.length_append]; simp; omega, by omega, HQ.out.2.1, rfl⟩, fun h => absurd rfl h⟩
              obtain ⟨ms8, q1, q2⟩ := hO8
              have q3 := q2.length
              rw [List.length_append] at q3
              refine ⟨ms8, _, _, _, rfl, q3, by omega, ?_⟩
              rw [q3] at q1
              exact q1
            have HK : Hid (gk = 2 * (toks.length - k1) + 1) := HF.out.2.1
            clear hO8 hg8 hlo hb8 hob8 hsz hn1 hn2
            go_roundg (2 * (toks.length - k') + 1)
            case measure => have := HK.out; omega
            case rel => exact ⟨_, _, _, HE.out⟩
        · have d2 : decide ((k1 : Int) < (toks.length : Int)) = false := by simpa using hlt
          rw [List.drop_of_length_le (by omega), preL_end] at hS
          have HF : Hid (S = .ok pre []) := hS
          have HO := hidm hO
          clear hO hS hf hn hf1
          go_wp2_with fail
          refine wp_region_quiet_grown mixed (by kernel_rfl) ?_
          repeat (go_big_quiet_step ((go_at_call 29; exact grown_of (HC.out _ _))))
          refine wpQuiet_nil ?_
          intro _ hw'
          obtain ⟨⟨nq, osq⟩, hw''⟩ := hw'
          subst hw''
          have hgr := (Grown.refl wo).quiet nq osq
          have HP2 : Hid (PQ w (w1.heap.size + 1) A c toks s.size (Go.Sort.grow (wo.drewN nq) osq) S gk k1 0 0 (.slice A1 pre.length cc) ∧ OwnL (Go.Sort.grow (wo.drewN nq) osq) (w1.heap.size + 1 + 1) (.slice A1 pre.length cc) pre) := ⟨HP.out.grown hgr, HO.out.step (fun k h1 _ => hgr.below.block k h1)⟩
          clear hgr
          obtain ⟨W2, hW2⟩ : ∃ W2, Go.Sort.grow (wo.drewN nq) osq = W2 := ⟨_, rfl⟩
          rw [hW2] at HP2 ⊢
          clear d0 d1 HC HP HO hW2
          go_wp2_with fail
          refine (fine_any HP2.out.1.rq).mono ?_
          rintro x w8 ⟨rfl, rfl⟩
          rw [show ((0 : Int) == 0) = true from rfl]
          obtain ⟨c0, c1, c2, c3⟩ := HP2.out.1.fb.cells
          go_wp2
          have K := HP2.out.1.fb.set 0 0
          obtain ⟨d0, d1, -, -⟩ := K.cells
          refine bodyPost_ret (v := .tuple #[.slice A1 pre.length cc, .agg #[.int .i64 0, .int .i64 0]]) (by simp [results, Tryz.f14, go_sem, d0, d1]) rfl ?_
          unfold PO
          rw [if_pos rfl, HS.out, HF.out]
          exact ⟨(HP2.out.1.below.setCell (p := ⟨w.heap.size, 0, none⟩) (Nat.le_refl _) _).setCell (p := ⟨w.heap.size, 1, none⟩) (Nat.le_refl _) _, _, rfl, HP2.out.2.rows.step (by omega) (fun k _ h2 => (heap_set_other _ (by omega) _ _).trans (heap_set_other _ (by omega) _ _))⟩
      · obtain ⟨hSb, hf⟩ := HP.out.bad hfc
        obtain ⟨ms, A1, n, cc, hv, -⟩ := HP.out.row
        subst hv
        have HF : Hid (S = .no fa1 fc) := hSb
        have e0 : (fc == 0) = false := by simpa using hfc
        rw [e0] at HC
        clear hSb hf hfc
        go_wp2_with fail
        refine wp_region_quiet_grown mixed (by kernel_rfl) ?_
        repeat (go_big_quiet_step ((go_at_call 29; exact grown_of (HC.out _ _))))
        refine wpQuiet_nil ?_
        intro _ hw'
        obtain ⟨⟨nq, osq⟩, hw''⟩ := hw'
        subst hw''
        have hgr := (Grown.refl wo).quiet nq osq
        have HP2 : Hid (PQ w (w1.heap.size + 1) A c toks s.size (Go.Sort.grow (wo.drewN nq) osq) S gk k1 fa1 fc (.slice A1 n cc)) := HP.out.grown hgr
        clear hgr
        obtain ⟨W2, hW2⟩ : ∃ W2, Go.Sort.grow (wo.drewN nq) osq = W2 := ⟨_, rfl⟩
        rw [hW2] at HP2 ⊢
        clear d0 d1 HC HP hW2
        go_wp2_with fail
        refine (fine_any HP2.out.rq).mono ?_
        rintro x w8 ⟨rfl, rfl⟩
        rw [e0]
        obtain ⟨c0, c1, c2, c3⟩ := HP2.out.fb.cells
        obtain ⟨-, -, -, r3, r4⟩ := HP2.out.rq.cells
        go_wp2
        go_region
        all_goals go_wp2
        all_goals
          have K := HP2.out.fb.set fa1 fc
          obtain ⟨d0, d1, -, -⟩ := K.cells
          refine bodyPost_ret (v := .tuple #[.slice none 0 0, .agg #[.int .i64 fa1, .int .i64 fc]]) (by simp [results, Tryz.f14, go_sem, d0, d1]) rfl ?_
          unfold PO
          rw [if_pos rfl, HS.out, HF.out]
          have hb := (HP2.out.below.setCell (p := ⟨w.heap.size, 0, none⟩) (Nat.le_refl _) (.int .i64 fa1)).setCell (p := ⟨w.heap.size, 1, none⟩) (Nat.le_refl _) (.int .i64 fc)
          exact ⟨⟨hb.os, hb.tape, hb.output, hb.size, hb.block⟩, rfl⟩
  · have hd : (fe != 0) = true := by simpa using hfe
    rw [if_neg hfe] at hv
    subst hv
    have HB : Hid (Below w.heap.size w w1 ∧ FB w1 w.heap.size 0 0) := ⟨hB1, hF1⟩
    have c := fun o => (hF1.allocs o).cells
    have c0 := fun o => (c o).1
    have c1 := fun o => (c o).2.1
    have c2 := fun o => (c o).2.2.1
    have c3 := fun o => (c o).2.2.2
    clear c hb1 hF1 hB1
    go_wp2
    go_region
    all_goals go_wp2
    all_goals
      have K := (HB.out.2.allocs (.cells #[.int .i64 fa, .int .i64 fe] 32)).set fa fe
      obtain ⟨d0, d1, -, -⟩ := K.cells
      refine bodyPost_ret (v := .tuple #[.slice none 0 0, .agg #[.int .i64 fa, .int .i64 fe]]) (by simp [results, Tryz.f14, go_sem, d0, d1]) rfl ?_
      unfold PO
      rw [if_neg hfe]
      have hb := ((HB.out.1.alloc HB.out.1.size (.cells #[.int .i64 fa, .int .i64 fe] 32)).setCell (p := ⟨w.heap.size, 0, none⟩) (Nat.le_refl _) (.int .i64 fa)).setCell (p := ⟨w.heap.size, 1, none⟩) (Nat.le_refl _) (.int .i64 fe)
      exact ⟨rfl, hb.os, hb.tape, hb.output, hb.size, hb.block⟩
end Go.Proofs
