/-
  Atoms, by thinking: what a table of sets says, and that it can say it in one way alone.
-/
import Derived.Test.YtjjkomaokgmkhaaDoorAen
namespace Go.Proofs

def anyR : List (Int × Int) := [(0, 55295), (57344, 1114111), (1114240, 1114367)]
def isUn (u : Int) : Prop := inS anyR u
/-- sets of units, each of them a row of ranges that rise and do not touch -/
def OkS (ss : List (List (Int × Int))) : Prop := ∀ s ∈ ss, RwOk s ∧ ∀ u, inS s u → isUn u
theorem any_ok : RwOk anyR := by
  refine ⟨?_, fun x hx => ?_⟩
  · simp [anyR]
  · simp only [anyR, List.mem_cons, List.not_mem_nil, or_false] at hx
    rcases hx with rfl | rfl | rfl <;> decide
/-- whether two numbers lie in the same sets -/
def Alike (ss : List (List (Int × Int))) (u v : Int) : Prop := ∀ n, n < ss.length → (inS (ss.getD n []) u ↔ inS (ss.getD n []) v)
/-- what a table says: of is the atom of a number, N how many atoms there are -/
structure Tells (ss : List (List (Int × Int))) (N : Nat) (of : Int → Int) : Prop where
  no : ∀ u, ¬ isUn u → of u = -1
  yes : ∀ u, isUn u → ∃ k : Nat, of u = k ∧ k < N
  same : ∀ u v, isUn u → isUn v → (of u = of v ↔ Alike ss u v)
  some : ∀ k : Nat, k < N → ∃ u, isUn u ∧ of u = k
  order : ∀ k k' : Nat, k < k' → k' < N → ∃ u, of u = k ∧ ∀ v, of v = k' → u < v
theorem Tells.un {ss : List (List (Int × Int))} {N : Nat} {of : Int → Int} (h : Tells ss N of) {u : Int} {k : Nat} (e : of u = k) : isUn u := Classical.byContradiction fun hn => by have := h.no u hn; omega
/-- two tables of sets that tell the same units apart say the same -/
theorem Tells.eq {ss tt : List (List (Int × Int))} {N M : Nat} {f g : Int → Int} (h : Tells ss N f) (k : Tells tt M g) (hA : ∀ u v, isUn u → isUn v → (Alike ss u v ↔ Alike tt u v)) : ∀ (m : Nat) (u : Int), f u = m → g u = m := by
  intro m
  induction m using Nat.strongRecOn with
  | ind m ih =>
    intro u hu
    have hU := h.un hu
    obtain ⟨m', e, hm'⟩ := k.yes u hU
    obtain ⟨m1, e1, hm1⟩ := h.yes u hU
    have hmN : m < N := by omega
    rcases Nat.lt_trichotomy m' m with hlt | heq | hgt
    · exfalso
      obtain ⟨v, hv, hv2⟩ := h.some m' (by omega)
      have hg := ih m' hlt v hv2
      have := (k.same v u hv hU).1 (by omega)
      have := (h.same v u hv hU).2 ((hA v u hv hU).2 this)
      omega
    · rw [e, heq]
    · exfalso
      obtain ⟨v, hv, hv2⟩ := k.some m (by omega)
      obtain ⟨j, e2, hj⟩ := h.yes v hv
      have hnv : ¬ f v = f u := fun e3 => by
        have := (k.same v u hv hU).2 ((hA v u hv hU).1 ((h.same v u hv hU).1 e3))
        omega
      have hjm : m < j := by
        rcases Nat.lt_trichotomy j m with h1 | h1 | h1
        · have := ih j h1 v e2; omega
        · omega
        · exact h1
      obtain ⟨u0, hu0, hu0'⟩ := h.order m j hjm hj
      obtain ⟨v0, hv0, hv0'⟩ := k.order m m' hgt hm'
      have hU0 := h.un hu0
      have hV0 := k.un hv0
      have ev : f v0 = j := by
        have := (h.same v0 v hV0 hv).2 ((hA v0 v hV0 hv).2 ((k.same v0 v hV0 hv).1 (by omega)))
        omega
      have eu : g u0 = m' := by
        have := (k.same u0 u hU0 hU).2 ((hA u0 u hU0 hU).1 ((h.same u0 u hU0 hU).1 (by omega)))
        omega
      have := hu0' v0 ev
      have := hv0' u0 eu
      omega
theorem Tells.all {ss tt : List (List (Int × Int))} {N M : Nat} {f g : Int → Int} (h : Tells ss N f) (k : Tells tt M g) (hA : ∀ u v, isUn u → isUn v → (Alike ss u v ↔ Alike tt u v)) : (∀ u, f u = g u) ∧ N = M := by
  have hfg : ∀ u, f u = g u := fun u => by
    by_cases hu : isUn u
    · obtain ⟨m, e, _⟩ := h.yes u hu
      rw [e, h.eq k hA m u e]
    · rw [h.no u hu, k.no u hu]
  refine ⟨hfg, ?_⟩
  rcases Nat.lt_trichotomy N M with hlt | e | hlt
  · obtain ⟨u, hu, e⟩ := k.some N hlt
    obtain ⟨m, e2, h2⟩ := h.yes u hu
    have := hfg u
    omega
  · exact e
  · obtain ⟨u, hu, e⟩ := h.some M hlt
    obtain ⟨m, e2, h2⟩ := k.yes u hu
    have := hfg u
    omega
/-- the shapes of towers that are right for some sets -/
def Fit (LL : List Nat) (L0 n : Nat) : Prop := Shp LL ∧ n ≤ 64 * L0 ∧ ∃ up : List (List Nat), up.map List.length = LL ∧ Chn [(0, 0)] (List.replicate L0 0) up ∧ topOf up = 0
/-- the beginning -/
def fs0 (L0 : Nat) (up : List (List Nat)) : FS := ⟨[], [], [], [], [(0, 0)], List.replicate L0 0, up⟩
theorem fs0_FI {LL : List Nat} {L0 : Nat} {up : List (List Nat)} (h1 : up.map List.length = LL) (h2 : Chn [(0, 0)] (List.replicate L0 0) up) : FI LL L0 [] (fs0 L0 up) where
  r0 := rfl
  chn := h2
  len := h1
  nd := by simp [fs0]
  p0 := rfl
  bl := rfl
  inc := by simp [fs0]
  pl := by simp
  row := fun j h => by simp [fs0] at h
  wn := by simp [fs0]
  w0 := by simp [fs0]
  sl := rfl
  fst := fun k hk => by simp [fs0] at hk
  seg := fun k hk => by simp [fs0] at hk
  adj := fun j b b' h => by simp [fs0] at h
/-- all that is known of the table of some sets -/
structure Done (ss : List (List (Int × Int))) (LL : List Nat) (L0 : Nat) (all : List (Int × Int)) (s : FS) : Prop where
  ok : OkS ss
  fit : Fit LL L0 (ss.length + 1)
  perm : all.Perm (allT 0 (ss ++ [anyR]))
  fi : FI LL L0 all s
theorem Done.bit {ss : List (List (Int × Int))} {LL : List Nat} {L0 : Nat} {all : List (Int × Int)} {s : FS} (h : Done ss LL L0 all s) (u : Int) (n : Nat) : bitW (rowD L0 all u) n = true ↔ inS ((ss ++ [anyR]).getD n []) u :=
  bit_row (fun x hx => by
    rcases List.mem_append.1 hx with h1 | h1
    · exact (h.ok x h1).1
    · simp at h1; subst h1; exact any_ok) (by simpa using h.fit.2.1) h.perm u n
theorem inS_nil (u : Int) : ¬ inS [] u := fun ⟨x, hx, _⟩ => by simp at hx
theorem getD_any (ss : List (List (Int × Int))) (n : Nat) : (n < ss.length ∧ (ss ++ [anyR]).getD n [] = ss.getD n []) ∨ (n = ss.length ∧ (ss ++ [anyR]).getD n [] = anyR) ∨ (ss.length < n ∧ (ss ++ [anyR]).getD n [] = []) := by
  rcases Nat.lt_trichotomy n ss.length with h | h | h
  · exact .inl ⟨h, by simp [List.getD, List.getElem?_append_left h]⟩
  · exact .inr (.inl ⟨h, by subst h; simp [List.getD]⟩)
  · exact .inr (.inr ⟨h, by rw [List.getD_eq_getElem?_getD, List.getElem?_eq_none (by simp; omega)]; rfl⟩)
theorem Done.zero {ss : List (List (Int × Int))} {LL : List Nat} {L0 : Nat} {all : List (Int × Int)} {s : FS} (h : Done ss LL L0 all s) {u : Int} (hu : ¬ isUn u) : rowD L0 all u = List.replicate L0 0 := by
  refine row_ext (rowD_w64 _ _ _) (W64.zeros _) (by rw [rowD_len]; simp) fun n => ?_
  have hz : bitW (List.replicate L0 0) n = false := by
    unfold bitW
    have : (List.replicate L0 0).getD (n / 64) 0 = 0 := by
      rw [List.getD_eq_getElem?_getD, List.getElem?_replicate]
      split <;> rfl
    rw [this]; simp
  rw [hz]
  cases hb : bitW (rowD L0 all u) n with
  | false => rfl
  | true =>
    exfalso
    have := (h.bit u n).1 hb
    rcases getD_any ss n with ⟨h1, h2⟩ | ⟨h1, h2⟩ | ⟨h1, h2⟩
    · rw [h2] at this
      have e : ss.getD n [] = ss[n] := by simp [List.getD, h1]
      rw [e] at this
      exact hu ((h.ok _ (List.getElem_mem h1)).2 u this)
    · rw [h2] at this; exact hu this
    · rw [h2] at this; exact inS_nil u this
theorem Done.nonzero {ss : List (List (Int × Int))} {LL : List Nat} {L0 : Nat} {all : List (Int × Int)} {s : FS} (h : Done ss LL L0 all s) {u : Int} (hu : isUn u) : rowD L0 all u ≠ List.replicate L0 0 := fun e => by
  have hb := (h.bit u ss.length).2 (by
    rcases getD_any ss ss.length with ⟨h1, _⟩ | ⟨_, h2⟩ | ⟨h1, _⟩
    · omega
    · rw [h2]; exact hu
    · omega)
  rw [e] at hb
  unfold bitW at hb
  have : (List.replicate L0 0).getD (ss.length / 64) 0 = 0 := by
    rw [List.getD_eq_getElem?_getD, List.getElem?_replicate]
    split <;> rfl
  rw [this] at hb
  simp at hb
theorem Done.k0 {ss : List (List (Int × Int))} {LL : List Nat} {L0 : Nat} {all : List (Int × Int)} {s : FS} (h : Done ss LL L0 all s) : Kd LL L0 s.ps 0 (List.replicate L0 0) := by
  obtain ⟨_, _, up, h1, h2, h3⟩ := h.fit
  have hp : [(0, 0)] <+: s.ps := by
    have := h.fi.p0
    cases e : s.ps with
    | nil => rw [e] at this; cases this
    | cons x l => rw [e] at this; simp at this; subst this; exact ⟨l, rfl⟩
  exact ⟨up, h2.grow hp, h1, by simp, h3⟩
theorem Done.alike {ss : List (List (Int × Int))} {LL : List Nat} {L0 : Nat} {all : List (Int × Int)} {s : FS} (h : Done ss LL L0 all s) {u v : Int} (hu : isUn u) (hv : isUn v) : rowD L0 all u = rowD L0 all v ↔ Alike ss u v := by
  constructor
  · intro e n hn
    have h1 := h.bit u n
    have h2 := h.bit v n
    rcases getD_any ss n with ⟨_, g⟩ | ⟨g1, _⟩ | ⟨g1, _⟩
    · rw [g] at h1 h2
      rw [← h1, ← h2, e]
    · omega
    · omega
  · intro hA
    refine row_ext (rowD_w64 _ _ _) (rowD_w64 _ _ _) (by rw [rowD_len, rowD_len]) fun n => ?_
    rw [Bool.eq_iff_iff, h.bit, h.bit]
    rcases getD_any ss n with ⟨g1, g⟩ | ⟨_, g⟩ | ⟨_, g⟩
    · rw [g]; exact hA n g1
    · rw [g]; exact ⟨fun _ => hv, fun _ => hu⟩
    · rw [g]; exact ⟨fun e => absurd e (inS_nil u), fun e => absurd e (inS_nil v)⟩
theorem Done.tells {ss : List (List (Int × Int))} {LL : List Nat} {L0 : Nat} {all : List (Int × Int)} {s : FS} (h : Done ss LL L0 all s) : Tells ss s.wh.length (ofP s.st s.bg) := by
  have hS := h.fit.1
  have hof := fun u => h.fi.of h.k0 u
  have hno : ∀ u, ¬ isUn u → ofP s.st s.bg u = -1 := fun u hu => by
    rcases hof u with ⟨h1, _⟩ | ⟨k, w, h1, h2, h3⟩
    · exact h1
    · exfalso
      rw [h.zero hu] at h3
      have := h3.num h.fi.nd h.k0
      subst this
      exact h.fi.w0 (List.mem_of_getElem? h2)
  have hyes : ∀ u, isUn u → ∃ k w : Nat, ofP s.st s.bg u = k ∧ s.wh[k]? = some w ∧ Kd LL L0 s.ps w (rowD L0 all u) := fun u hu => by
    rcases hof u with ⟨h1, h2⟩ | h1
    · exact absurd (h2.row hS h.k0) (h.nonzero hu)
    · exact h1
  refine ⟨hno, fun u hu => ?_, fun u v hu hv => ?_, fun k hk => ?_, fun k k' hkk hk' => ?_⟩
  · obtain ⟨k, w, h1, h2, _⟩ := hyes u hu
    exact ⟨k, h1, (List.getElem?_eq_some_iff.1 h2).1⟩
  · rw [← h.alike hu hv]
    obtain ⟨k, w, h1, h2, h3⟩ := hyes u hu
    obtain ⟨k', w', h1', h2', h3'⟩ := hyes v hv
    constructor
    · intro e
      have : k = k' := by omega
      subst this
      rw [h2] at h2'
      injection h2' with e2
      subst e2
      exact h3.row hS h3'
    · intro e
      rw [e] at h3
      have := h3.num h.fi.nd h3'
      subst this
      have := nodup_idx h.fi.wn h2 h2'
      omega
  · obtain ⟨j, _, h2, _⟩ := h.fi.fst k hk
    obtain ⟨hj, h3⟩ := h.fi.of_at h2
    refine ⟨s.st[j], Classical.byContradiction fun hn => ?_, h3⟩
    have := hno _ hn
    omega
  · obtain ⟨j, _, h2, h2'⟩ := h.fi.fst k (by omega)
    obtain ⟨j', _, h3, h3'⟩ := h.fi.fst k' hk'
    obtain ⟨hj, h4⟩ := h.fi.of_at h2
    refine ⟨s.st[j], h4, fun v hv => ?_⟩
    have hjj : j < j' := by
      rcases Nat.lt_trichotomy j j' with e | e | e
      · exact e
      · subst e; rw [h2] at h3; injection h3 with h3; omega
      · have := h2' j' _ e h3; omega
    unfold ofP at hv
    rcases at_seg h.fi.inc v with ⟨e0, _⟩ | ⟨i, hi, e1, e2, _⟩
    · rw [if_pos e0] at hv; omega
    · rw [e1, if_neg (by omega), Nat.add_sub_cancel] at hv
      have hbi : s.bg[i]? = some (k' : Int) := by
        have hib : i < s.bg.length := by rw [h.fi.bl]; exact hi
        rw [List.getD_eq_getElem?_getD, List.getElem?_eq_getElem hib] at hv
        rw [List.getElem?_eq_getElem hib]
        simp at hv; rw [hv]
      have hij : ¬ i < j' := fun hlt => by have := h3' i _ hlt hbi; omega
      have := List.pairwise_iff_getElem.1 h.fi.inc j i hj hi (by omega)
      omega
/-- the marks of an atom -/
def inP (ps : List (Nat × Nat)) (high w n : Nat) : Bool := (hasP ps high w (n / 64)).testBit (n % 64)
theorem Done.has {ss : List (List (Int × Int))} {LL : List Nat} {L0 : Nat} {all : List (Int × Int)} {s : FS} (h : Done ss LL L0 all s) {u : Int} {k w n : Nat} (hk : ofP s.st s.bg u = k) (hw : s.wh[k]? = some w) (hn : n < ss.length) : inP s.ps LL.length w n = true ↔ inS (ss.getD n []) u := by
  have hS := h.fit.1
  have hK : Kd LL L0 s.ps w (rowD L0 all u) := by
    rcases h.fi.of h.k0 u with ⟨h1, _⟩ | ⟨k', w', h1, h2, h3⟩
    · omega
    · have : k' = k := by omega
      subst this
      rw [hw] at h2
      injection h2 with h2
      subst h2
      exact h3
  have hb := h.bit u n
  rcases getD_any ss n with ⟨_, g⟩ | ⟨g1, _⟩ | ⟨g1, _⟩
  · rw [g] at hb
    rw [← hb]
    obtain ⟨up, c1, c2, c3, c4⟩ := hK
    obtain ⟨t1, t2⟩ := top_last hS c2
    have hul : up.length = LL.length := by rw [← c2]; simp
    have hwd : n / 64 < (rowD L0 all u).length := by
      rw [c3]
      have := h.fit.2.1
      omega
    have hl : ((rowD L0 all u) :: up).getD up.length [] = [topOf up] := by
      rw [← t2, List.getLast?_eq_some_getLast t1, List.getD_eq_getElem?_getD]
      have : ((rowD L0 all u) :: up)[up.length]? = up[up.length - 1]? := by
        have := List.length_pos_iff.2 t1
        rw [show up.length = (up.length - 1) + 1 by omega, List.getElem?_cons_succ]
        simp
      rw [this, ← List.getLast?_eq_getElem?, List.getLast?_eq_some_getLast t1]
    have hlen := c1.len hwd up.length (Nat.le_refl _)
    have hat := hasP_at c1 hwd up.length (Nat.le_refl _)
    rw [hl] at hlen hat
    have h0 : n / 64 / 2 ^ up.length = 0 := by simp at hlen; exact Nat.div_eq_of_lt hlen
    rw [h0, c4] at hat
    simp only [List.getD_cons_zero] at hat
    unfold inP bitW
    rw [← hul, hat]
  · omega
  · omega
end Go.Proofs
