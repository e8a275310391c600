/-
  names: what the document's example makes, by thinking.
-/
import Derived.Test.YtbacejefgpaabaaDoorNp
namespace Go.Proofs
open Go.RowKit Go.Shelf

set_option maxRecDepth 100000

theorem spanC_unit {u : Int} (h : isU u) : spanC u u = 0 := by
  unfold spanC
  exact if_pos ((spanOk_unit u).2 h)
theorem unitC {K : ByteArray → Option (List (Int × Int))} {x : It} (hk : x.k = 1) (hu : isU x.u) : plainC K x = 0 ∧ partC K x = 0 ∧ plainL K x = clips x.u x.u ∧ partL K x = clips x.u x.u := by
  simp only [partC, partL, plainC, plainL, hk, spanC_unit hu]
  simp
theorem setC_unit {K : ByteArray → Option (List (Int × Int))} {x : It} {l : List It} {c : Int} {r : List (Int × Int)} (hk : x.k = 1) (hu : isU x.u) (h : SetC K x l c r) : c = 0 ∧ r = clips x.u x.u := by
  rcases h with ⟨e, _⟩ | ⟨e, _⟩ | ⟨_, _, e1, e2⟩
  · omega
  · omega
  · exact ⟨e1.trans (unitC hk hu).1, e2.trans (unitC hk hu).2.2.1⟩
theorem setC_parts {K : ByteArray → Option (List (Int × Int))} {x : It} {l : List It} {c : Int} {r s : List (Int × Int)} (hk : x.k = 5) (hnt : x.nt = false) (hp : ∀ y ∈ l, partC K y = 0) (hs : Canon (partsL K l) s) (hn : s.length ≤ 512) (h : SetC K x l c r) : c = 0 ∧ r = s := by
  rcases h with ⟨e, _⟩ | ⟨_, h⟩ | ⟨_, e, _⟩
  · omega
  · rw [hnt] at h
    obtain ⟨c1, r1, h, hh⟩ := h
    obtain ⟨rfl, rfl⟩ : c = c1 ∧ r = r1 := by
      rcases hh with h | h
      · exact h.2
      · exact absurd h.1 (by decide)
    rcases h with ⟨e, _⟩ | ⟨_, s', hs', h⟩
    · exact absurd (partsC_ok K l hp) e
    · obtain rfl := canon_unique hs hs'
      rcases h with ⟨_, h1, h2⟩ | ⟨h, _⟩
      · exact ⟨h1, h2⟩
      · omega
  · exact absurd hk e
theorem setC_name {K : ByteArray → Option (List (Int × Int))} {x : It} {l : List It} {c : Int} {r : List (Int × Int)} (hk : x.k = 2) (h : SetC K x l c r) : c = nameC (K x.nm) ∧ r = nameL (K x.nm) := by
  rcases h with ⟨e, _⟩ | ⟨e, _⟩ | ⟨_, _, e1, e2⟩
  · omega
  · omega
  · rw [e1, e2]
    simp [plainC, plainL, hk]
theorem canon_self {l : List (Int × Int)} (h : Good l) (hu : ∀ u, hasU l u → isU u) : Canon l l := ⟨h, fun u => ⟨fun k => ⟨hu u k, k⟩, fun k => k.2⟩⟩
theorem eachC_nil {K : ByteArray → Option (List (Int × Int))} {c : Int} {rs : List (List (Int × Int))} (h : EachC K [] c rs) : c = 0 ∧ rs = [] := by
  rcases h with ⟨h1, h2, _⟩ | ⟨_, k, hk, _⟩
  · exact ⟨h1, List.eq_nil_of_length_eq_zero h2⟩
  · simp at hk
theorem eachC_one {K : ByteArray → Option (List (Int × Int))} {p : PIt} {c c0 : Int} {rs : List (List (Int × Int))} {r0 : List (Int × Int)} (hd : ∀ c r, SetC K p.x (p.l.map Prod.fst) c r → c = c0 ∧ r = r0) (h : EachC K [p] c rs) : c = c0 ∧ (c0 = 0 → rs = [r0]) := by
  rcases h with ⟨h1, h2, h3⟩ | ⟨hc, k, hk, _, r, hr⟩
  · obtain ⟨x, rfl⟩ : ∃ x, rs = [x] := List.length_eq_one_iff.1 h2
    have h4 := hd _ _ (h3 0 (by simp) (by simp))
    exact ⟨h1.trans h4.1, fun _ => by rw [show x = r0 from h4.2]⟩
  · obtain rfl : k = 0 := by simp at hk; exact hk
    have h4 := hd _ _ hr
    exact ⟨h4.1, fun e => absurd (h4.1.trans e) hc⟩
theorem eachP_one {K : ByteArray → Option (List (Int × Int))} {p : RIt} {c c0 : Int} {rs : List Pc} {r0 : Pc} (hd : ∀ c r, PieceC K p c r → c = c0 ∧ r = r0) (h : EachP K [p] c rs) : c = c0 ∧ (c0 = 0 → rs = [r0]) := by
  rcases h with ⟨h1, h2, h3⟩ | ⟨hc, k, hk, _, r, hr⟩
  · obtain ⟨x, rfl⟩ : ∃ x, rs = [x] := List.length_eq_one_iff.1 h2
    have h4 := hd _ _ (h3 0 (by simp) (by simp))
    exact ⟨h1.trans h4.1, fun _ => by rw [show x = r0 from h4.2]⟩
  · obtain rfl : k = 0 := by simp at hk; exact hk
    have h4 := hd _ _ hr
    exact ⟨h4.1, fun e => absurd (h4.1.trans e) hc⟩
theorem ruleC_key {K : ByteArray → Option (List (Int × Int))} {l : Ln} {c c0 : Int} {r : Rl} {p : PIt} {s : RIt} {r0 : List (Int × Int)} {s0 : Pc} (ha : l.ante = []) (hp : l.post = []) (hk : l.key = [p]) (hr : l.res = [s]) (hd : ∀ c r, SetC K p.x (p.l.map Prod.fst) c r → c = c0 ∧ r = r0) (hs : ∀ c r, PieceC K s c r → c = 0 ∧ r = s0) (h : RuleC K l c r) : c = c0 ∧ (c0 = 0 → r = ⟨l.bg, l.en, l.cu, [], [r0], [], [s0]⟩) := by
  obtain ⟨ca, ra, h1, h⟩ := h
  rw [ha] at h1
  obtain ⟨rfl, rfl⟩ := eachC_nil h1
  rcases h with ⟨e, _⟩ | ⟨_, ck, rk, h2, h⟩
  · exact absurd rfl e
  rw [hk] at h2
  obtain ⟨e2, h2⟩ := eachC_one hd h2
  rcases h with ⟨e, h⟩ | ⟨e, cp, rp, h3, h⟩
  · exact ⟨h.trans e2, fun e0 => absurd (e2.trans e0) e⟩
  obtain rfl := h2 (e2.symm.trans e)
  rw [hp] at h3
  obtain ⟨rfl, rfl⟩ := eachC_nil h3
  rcases h with ⟨e, _⟩ | ⟨_, cr, rr, h4, h⟩
  · exact absurd rfl e
  rw [hr] at h4
  obtain ⟨rfl, h5⟩ := eachP_one hs h4
  obtain rfl := h5 rfl
  rcases h with ⟨e, _⟩ | ⟨_, h7, h6⟩
  · exact absurd rfl e
  · exact ⟨h7.trans (e.symm.trans e2), fun _ => h6⟩
/-- the example: a name, a rule, an end, a rule by the name -/
theorem shown_lines {c n : Int} {ps : List (List Rl)} {v : ByteArray} {q : PIt} {a e : It} {l1 l2 : Ln} {p1 p2 : PIt} {s1 s2 : RIt} {z : It}
    (hq : q.x.k = 5) (hqn : q.x.nt = false) (hl : q.l.map Prod.fst = [a, e]) (ha : a.k = 1 ∧ a.u = 97) (he : e.k = 1 ∧ e.u = 101)
    (a1 : l1.ante = []) (b1 : l1.post = []) (k1 : l1.key = [p1]) (r1 : l1.res = [s1]) (x1 : p1.x.k = 1 ∧ p1.x.u = 120) (y1 : s1.x.k = 1 ∧ s1.x.u = 121)
    (a2 : l2.ante = []) (b2 : l2.post = []) (k2 : l2.key = [p2]) (r2 : l2.res = [s2]) (x2 : p2.x.k = 2 ∧ p2.x.nm = v) (y2 : s2.x.k = 8 ∧ s2.x.ky = 1) (z1 : s2.q.x.k = 5) (zn : s2.q.x.nt = false) (z2 : s2.q.l.map Prod.fst = [z]) (z3 : z.k = 6 ∧ z.lo = 65 ∧ z.hi = 66)
    (h : PassesC [.nm v q, .rl l1, .th, .rl l2] (fun _ => none) [[]] 0 c n ps) : c = 0 ∧ n = 0 ∧ ∃ x1 x2 s, ps = [[x1], [x2]] ∧ x2.key = [[(97, 97), (101, 101)]] ∧ x2.res = [⟨3, 0, 0, s⟩] := by
  obtain ⟨c1, K1, ps1, h1, h⟩ := h
  rcases h1 with ⟨h1, _⟩ | ⟨_, r, h1, rfl, rfl⟩
  · cases h1
  rw [hl] at h1
  have hua : isU a.u := by rw [ha.2]; simp [isU]
  have hue : isU e.u := by rw [he.2]; simp [isU]
  have hcan : Canon (partsL (fun _ => none) [a, e]) [(97, 97), (101, 101)] := by
    have e1 : partsL (fun _ => none) [a, e] = [(97, 97), (101, 101)] := by
      simp only [partsL, List.flatMap_cons, List.flatMap_nil, List.append_nil, (unitC ha.1 hua).2.2.2, (unitC he.1 hue).2.2.2, ha.2, he.2]
      decide
    rw [e1]
    exact canon_self (by decide) (fun u hu => by simp [hasU] at hu; simp only [isU]; omega)
  obtain ⟨rfl, rfl⟩ := setC_parts hq hqn (fun y hy => by
    simp only [List.mem_cons, List.not_mem_nil, or_false] at hy
    rcases hy with rfl | rfl
    · exact (unitC ha.1 hua).2.1
    · exact (unitC he.1 hue).2.1) hcan (by decide) h1
  rcases h with ⟨e0, _⟩ | ⟨_, c2, K2, ps2, ⟨i, q2, x, hi, hr, rfl, rfl⟩, h⟩
  · exact absurd rfl e0
  obtain ⟨rfl, rfl⟩ : i = [] ∧ q2 = [] := by
    cases i with
    | nil => simpa using hi.symm
    | cons y i => simp at hi
  obtain ⟨rfl, hx⟩ := ruleC_key (c0 := 0) (r0 := clips p1.x.u p1.x.u) (s0 := ⟨1, s1.x.u, 0, []⟩) a1 b1 k1 r1 (fun c r h => setC_unit x1.1 (by rw [x1.2]; simp [isU]) h) (fun c r h => by
    rcases h with ⟨_, h, h'⟩ | ⟨h, _⟩ | ⟨h, _⟩
    · exact ⟨h.trans (spanC_unit (by rw [y1.2]; simp [isU])), h'⟩
    · rw [y1.1] at h; cases h
    · rw [y1.1] at h; cases h) hr
  rcases h with ⟨e0, _⟩ | ⟨_, c3, K3, ps3, ⟨rfl, rfl, rfl⟩, h⟩
  · exact absurd rfl e0
  rcases h with ⟨e0, _⟩ | ⟨_, c4, K4, ps4, ⟨i, q3, x', hi, hr', rfl, rfl⟩, h⟩
  · exact absurd rfl e0
  obtain ⟨rfl, rfl⟩ : i = [[x]] ∧ q3 = [] := by
    have := List.append_inj' hi (by simp)
    exact ⟨by simpa using this.1.symm, by simpa using this.2.symm⟩
  have hK : addK (fun _ => none) v [(97, 97), (101, 101)] p2.x.nm = some [(97, 97), (101, 101)] := by simp [addK, x2.2]
  have hz : partC (addK (fun _ => none) v [(97, 97), (101, 101)]) z = 0 := by
    unfold partC
    rw [if_pos z3.1, z3.2.1, z3.2.2]
    unfold spanC
    exact if_pos ⟨by decide, .inl ⟨by decide, by decide⟩⟩
  have hcz : Canon (partsL (addK (fun _ => none) v [(97, 97), (101, 101)]) [z]) [(65, 66)] := by
    have e1 : partsL (addK (fun _ => none) v [(97, 97), (101, 101)]) [z] = [(65, 66)] := by
      simp only [partsL, List.flatMap_cons, List.flatMap_nil, List.append_nil, partL, z3.1, z3.2.1, z3.2.2, if_true]
      decide
    rw [e1]
    exact canon_self (by decide) (fun u hu => by simp [hasU] at hu; simp only [isU]; omega)
  obtain ⟨rfl, hx'⟩ := ruleC_key (c0 := 0) (r0 := [(97, 97), (101, 101)]) (s0 := ⟨3, 0, 0, [(65, 66)]⟩) a2 b2 k2 r2 (fun c r h => by
    obtain ⟨h1, h2⟩ := setC_name x2.1 h
    rw [hK] at h1 h2
    exact ⟨h1.trans (by simp only [nameC]; exact if_pos (by decide)), h2⟩) (fun c r h => by
    rcases h with ⟨h, _⟩ | ⟨h, _⟩ | ⟨_, s, h, h'⟩
    · rw [y2.1] at h; cases h
    · rw [y2.1] at h; cases h
    · rw [z2] at h
      obtain ⟨e1, e2⟩ := setC_parts z1 zn (fun y hy => by
        obtain rfl : y = z := by simpa using hy
        exact hz) hcz (by decide) h
      exact ⟨e1, by rw [h', y2.2, e2]; rfl⟩) hr'
  rcases h with ⟨e0, _⟩ | ⟨_, h1, h2, h3⟩
  · exact absurd rfl e0
  refine ⟨h1, h2, x, x', [(65, 66)], by rw [h3]; rfl, ?_, ?_⟩
  · rw [hx' rfl]
  · rw [hx' rfl]
/-- the example's last line alone: its name is none -/
theorem shown_none {c n : Int} {ps : List (List Rl)} {l2 : Ln} {p2 : PIt} (a2 : l2.ante = []) (k2 : l2.key = [p2]) (x2 : p2.x.k = 2)
    (h : PassesC [.rl l2] (fun _ => none) [[]] 0 c n ps) : c = 60 ∧ n = 0 := by
  obtain ⟨c1, K1, ps1, ⟨i, q, r, _, ⟨ca, ra, h1, hr⟩, _, _⟩, h⟩ := h
  rw [a2] at h1
  obtain ⟨rfl, rfl⟩ := eachC_nil h1
  have h60 : c1 = 60 := by
    rcases hr with ⟨e, _⟩ | ⟨_, ck, rk, h2, hr⟩
    · exact absurd rfl e
    rw [k2] at h2
    obtain ⟨rfl, _⟩ := eachC_one (c0 := 60) (r0 := []) (fun c r h => by
      obtain ⟨h1, h2⟩ := setC_name x2 h
      exact ⟨h1, h2⟩) h2
    rcases hr with ⟨_, h⟩ | ⟨e, _⟩
    · exact h
    · cases e
  rcases h with ⟨_, e1, e2⟩ | ⟨e, _⟩
  · exact ⟨e1.trans h60, e2⟩
  · omega
/-- a set of one range -/
theorem shown_range {c : Int} {r : List (Int × Int)} {K : ByteArray → Option (List (Int × Int))} {x z : It} (hk : x.k = 5) (hnt : x.nt = false) (hz : z.k = 6 ∧ z.lo = 55295 ∧ z.hi = 57344) (h : SetC K x [z] c r) : c = 0 ∧ r = [(55295, 55295), (57344, 57344)] := by
  have e1 : partsL K [z] = [(55295, 55295), (57344, 57344)] := by
    simp only [partsL, List.flatMap_cons, List.flatMap_nil, List.append_nil, partL, hz.1, hz.2.1, hz.2.2, if_true]
    decide
  refine setC_parts hk hnt (fun y hy => ?_) (by rw [e1]; exact canon_self (by decide) (fun u hu => by simp [hasU] at hu; simp only [isU]; omega)) (by decide) h
  obtain rfl : y = z := by simpa using hy
  unfold partC
  rw [if_pos hz.1, hz.2.1, hz.2.2]
  unfold spanC
  exact if_pos ⟨by decide, .inl ⟨by decide, by decide⟩⟩
/-- no unit -/
theorem shown_unit {c : Int} {r : List (Int × Int)} {K : ByteArray → Option (List (Int × Int))} {x : It} {l : List It} (hk : x.k = 1) (hu : x.u = 55296) (h : SetC K x l c r) : c = 62 := by
  rcases h with ⟨e, _⟩ | ⟨e, _⟩ | ⟨_, _, e1, _⟩
  · omega
  · omega
  · rw [e1]
    unfold plainC
    rw [if_pos hk, hu]
    unfold spanC
    refine if_neg (fun h => ?_)
    have := (spanOk_unit 55296).1 h
    simp [isU] at this
end Go.Proofs
