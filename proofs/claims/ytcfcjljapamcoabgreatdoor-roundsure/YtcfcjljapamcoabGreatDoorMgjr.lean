/-
  Several texts in one (Cc Ce Cd Ic).
-/
import Derived.RangeFuncNested
import Derived.RangeFuncBound
import Derived.RangeFuncCalls
import Derived.RangeFuncLeaves
import Derived.Shelf.Abstract
import Derived.Shelf.RegionOpen
import Derived.WalkKit
import Derived.WalkSpells
import Derived.WalkLawsBesides
import Derived.OwnWalkIn
import Derived.TacticsInMore
import Derived.LoopNIn
import Derived.LoopIn
import Derived.BigQuiet
import Derived.RegionIn
import Derived.Deep.QuietTactic
import Derived.Deep.RegionWith
import Derived.Lib.OthersKept
import Derived.Maps.AppendAt
import Derived.Lib.SmallJoins
import Derived.Shelf.SlSortCmp.QuietGrown
import Derived.Deep.Upon
import Derived.Test.YtcfcjljapamcoabGreatDoorMghr
import Derived.Test.YtcfcjljapamcoabGreatDoorMgar
import Derived.Test.YtcfcjljapamcoabGreatDoorMppr
import Derived.Test.YtcfcjljapamcoabGreatDoorMpfr
import Derived.Test.YtcfcjljapamcoabGreatDoorMgbr
namespace Go.Proofs
open Go.RowKit Go.Shelf
set_option maxRecDepth 100000
attribute [local go_sem] Oper.semAt_some
attribute [local go_sem ↓] Go.wp_at_zero Go.wp_at_succ
theorem okS_len {l:List (Int × Int)} (h:okS l=true):l.length≤512:=by
 simp only [okS,validB,Bool.and_eq_true] at h
 have:=h.1
 simp at this
 omega
theorem ok_row {ls:List (List (Int × Int))} (h:ls.all okS=true):∀ l∈ls,l.length≤4294967296:=fun l hl=>by
 have:=okS_len (List.all_eq_true.1 h l hl)
 omega
theorem ownRow_sl (v:Value) (ls:List (List (Int × Int))) (w:World) (h:SR w v ls) (hn:ls.length≤8) (hs:ls.all okS=true) :
 Calls Tryz.prog 63 #[v] w fun e w'=>∃ y1 y2 y3,e = .returned (.slice y1 y2 y3)∧Rob (fun k=>k<w.heap.size) w' (fun W=>SR W (.slice y1 y2 y3) ls)∧Below w.heap.size w w':=by
 refine (ownRow_any v ls w h (by omega) (ok_row hs)).mono ?_
 rintro e w' ⟨v',rfl,h1,h2⟩
 obtain ⟨y1,y2,y3,rfl⟩:=h1.now.sl
 exact ⟨y1,y2,y3,rfl,h1,h2⟩
def RulV (w:World) (F:Nat→Value) (j:Nat) (r:Rl):Prop:=F (j*7) = .bool r.bg∧F (j*7+4) = .bool r.en∧F (j*7+6) = .int .i64 r.cu∧RR w (F (j*7+1)) (F (j*7+2)) (F (j*7+3)) (F (j*7+5)) r
structure OQ (w wr:World) (base gR:Nat) (rs:List Rl) (F:Nat→Value) (k:Nat) (G:Nat→Value):Prop where
 row:RowB wr gR 61 G (rs.length*7)
 new:∀ j (hj:j<rs.length),j<k→Rob (fun i=>i<base∨i=gR) wr fun W=>RulV W G j rs[j]
 old:∀ i,k*7≤i→G i=F i
 bel:Below base w wr
def val5 (S:Value) (k rb gR:Nat) (av kv pv:Value):Nat→Option Value
 | 0=>some S
 | 1=>some (.int .i64 k)
 | 2=>some S
 | 3=>some (.int .i64 k)
 | 4=>some S
 | 5=>some (.int .i64 k)
 | 6=>some (.pointer (some ⟨rb,1,none⟩))
 | 7=>some av
 | 9=>some (.pointer (some ⟨rb,2,none⟩))
 | 10=>some kv
 | 12=>some (.pointer (some ⟨rb,3,none⟩))
 | 13=>some pv
 | 15=>some (.pointer (some ⟨gR,k*7,none⟩))
 | 16=>some (.pointer (some ⟨gR,k*7+1,none⟩))
 | 18=>some (.pointer (some ⟨gR,k*7,none⟩))
 | 19=>some (.pointer (some ⟨gR,k*7+2,none⟩))
 | 21=>some (.pointer (some ⟨gR,k*7,none⟩))
 | 22=>some (.pointer (some ⟨gR,k*7+3,none⟩))
 | _=>none
def Gp (GG:Nat→Value) (k:Nat) (p:Nat→Bool) (vs:Nat→Value):Nat→Value:=fun i=>if p 17=true∧i=k*7+1 then vs 8 else if p 20=true∧i=k*7+2 then vs 11 else if p 23=true∧i=k*7+3 then vs 14 else GG i
structure J5 (w wr:World) (base gR k N:Nat) (S:Value) (GG:Nat→Value) (rb:Nat) (box:Obj) (av kv pv:Value) (r:Rl) (p:Nat→Bool) (vs:Nat→Value) (W:World):Prop where
 v:∀ i x,val5 S k rb gR av kv pv i=some x→p i=true→vs i=x
 c8:p 8=true→IsSl (vs 8)∧Rob (fun i=>i<base∨i=gR) W fun W=>SR W (vs 8) r.ante
 c11:p 11=true→IsSl (vs 11)∧Rob (fun i=>i<base∨i=gR) W fun W=>SR W (vs 11) r.key
 c14:p 14=true→IsSl (vs 14)∧Rob (fun i=>i<base∨i=gR) W fun W=>SR W (vs 14) r.post
 s17:p 17=true→p 8=true
 s20:p 20=true→p 11=true
 s23:p 23=true→p 14=true
 fr:Fr wr W fun i=>i=gR
 bel:Below base w W
 box:W.heap[rb]? = some box
 row:RowB W gR 61 (Gp GG k p vs) N
section
variable {w wr:World} {base gR k N:Nat} {S:Value} {GG:Nat→Value} {rb:Nat} {box:Obj} {av kv pv:Value} {r:Rl} {p:Nat→Bool} {vs:Nat→Value} {W:World}
theorem J5.put (h:J5 w wr base gR k N S GG rb box av kv pv r p vs W) {i:Nat} {x:Value} (hx:val5 S k rb gR av kv pv i=some x):J5 w wr base gR k N S GG rb box av kv pv r (fun j=>p j || j == i) (fun j=>if j=i then x else vs j) W:=by
 have h8:i≠8:=fun e=>by subst e;cases hx
 have h11:i≠11:=fun e=>by subst e;cases hx
 have h14:i≠14:=fun e=>by subst e;cases hx
 have h17:i≠17:=fun e=>by subst e;cases hx
 have h20:i≠20:=fun e=>by subst e;cases hx
 have h23:i≠23:=fun e=>by subst e;cases hx
 have e:Gp GG k (fun j=>p j || j == i) (fun j=>if j=i then x else vs j)=Gp GG k p vs:=by
  funext j
  simp [Gp,h8.symm,h11.symm,h14.symm,h17.symm,h20.symm,h23.symm]
 refine ⟨fun j y hy hj => ?_,by simpa [h8.symm] using h.c8,by simpa [h11.symm] using h.c11,by simpa [h14.symm] using h.c14,by simpa [h8.symm,h17.symm] using h.s17,by simpa [h11.symm,h20.symm] using h.s20,by simpa [h14.symm,h23.symm] using h.s23,h.fr,h.bel,h.box,by rw [e];exact h.row⟩
 by_cases hji:j=i
 · subst hji
   rw [hx] at hy
   injection hy with hy
   simpa using hy
 · simp [hji] at hj ⊢
   exact h.v j y hy hj
theorem J5.up (h:J5 w wr base gR k N S GG rb box av kv pv r p vs W) {W':World} (hb:Below W.heap.size W W') (hbs:base≤W.heap.size):J5 w wr base gR k N S GG rb box av kv pv r p vs W':=by
 have hf:∀ X,Fr W W' X:=fun X=>fr_below hb (Nat.le_refl _) X
 have hr:∀ {P:World→Prop},Rob (fun i=>i<base∨i=gR) W P→Rob (fun i=>i<base∨i=gR) W' P:=fun {P} hP=>hP.fr (hf fun _=>False) fun _ _ e=>e.elim
 exact ⟨h.v,fun e=>⟨(h.c8 e).1,hr (h.c8 e).2⟩,fun e=>⟨(h.c11 e).1,hr (h.c11 e).2⟩,fun e=>⟨(h.c14 e).1,hr (h.c14 e).2⟩,h.s17,h.s20,h.s23,h.fr.trans (hf _) fun _ _ e=>e,h.bel.trans (hb.mono hbs),(hb.block rb (blk_lt h.box)).trans h.box,h.row.fr (hf fun _=>False) id⟩
theorem J5.call8 (h:J5 w wr base gR k N S GG rb box av kv pv r p vs W) (hp:p 8=false) {x:Value} {W':World} (hb:Below W.heap.size W W') (hx:IsSl x) (hR:Rob (fun i=>i<base∨i=gR) W' fun W=>SR W x r.ante) (hbs:base≤W.heap.size):J5 w wr base gR k N S GG rb box av kv pv r (fun j=>p j || j == 8) (fun j=>if j=8 then x else vs j) W':=by
 have h2:=h.up hb hbs
 have hs:p 17=false:=by
  cases e:p 17 with
  | false=>rfl
  | true=>rw [h.s17 e] at hp;cases hp
 have e:Gp GG k (fun j=>p j || j == 8) (fun j=>if j=8 then x else vs j)=Gp GG k p vs:=by
  funext j
  simp [Gp,hs]
 refine ⟨fun j y hy hj => ?_,fun _=>⟨hx,hR⟩,fun e=>h2.c11 (by simpa using e),fun e=>h2.c14 (by simpa using e),fun _=>by simp,fun e=>(by simpa using h2.s20 (by simpa using e)),fun e=>(by simpa using h2.s23 (by simpa using e)),h2.fr,h2.bel,h2.box,by rw [e];exact h2.row⟩
 have hji:j≠8:=fun e=>by subst e;cases hy
 simp [hji] at hj ⊢
 exact h.v j y hy hj
theorem J5.call11 (h:J5 w wr base gR k N S GG rb box av kv pv r p vs W) (hp:p 11=false) {x:Value} {W':World} (hb:Below W.heap.size W W') (hx:IsSl x) (hR:Rob (fun i=>i<base∨i=gR) W' fun W=>SR W x r.key) (hbs:base≤W.heap.size):J5 w wr base gR k N S GG rb box av kv pv r (fun j=>p j || j == 11) (fun j=>if j=11 then x else vs j) W':=by
 have h2:=h.up hb hbs
 have hs:p 20=false:=by
  cases e:p 20 with
  | false=>rfl
  | true=>rw [h.s20 e] at hp;cases hp
 have e:Gp GG k (fun j=>p j || j == 11) (fun j=>if j=11 then x else vs j)=Gp GG k p vs:=by
  funext j
  simp [Gp,hs]
 refine ⟨fun j y hy hj => ?_,fun e=>h2.c8 (by simpa using e),fun _=>⟨hx,hR⟩,fun e=>h2.c14 (by simpa using e),fun e=>(by simpa using h2.s17 (by simpa using e)),fun _=>by simp,fun e=>(by simpa using h2.s23 (by simpa using e)),h2.fr,h2.bel,h2.box,by rw [e];exact h2.row⟩
 have hji:j≠11:=fun e=>by subst e;cases hy
 simp [hji] at hj ⊢
 exact h.v j y hy hj
theorem J5.call14 (h:J5 w wr base gR k N S GG rb box av kv pv r p vs W) (hp:p 14=false) {x:Value} {W':World} (hb:Below W.heap.size W W') (hx:IsSl x) (hR:Rob (fun i=>i<base∨i=gR) W' fun W=>SR W x r.post) (hbs:base≤W.heap.size):J5 w wr base gR k N S GG rb box av kv pv r (fun j=>p j || j == 14) (fun j=>if j=14 then x else vs j) W':=by
 have h2:=h.up hb hbs
 have hs:p 23=false:=by
  cases e:p 23 with
  | false=>rfl
  | true=>rw [h.s23 e] at hp;cases hp
 have e:Gp GG k (fun j=>p j || j == 14) (fun j=>if j=14 then x else vs j)=Gp GG k p vs:=by
  funext j
  simp [Gp,hs]
 refine ⟨fun j y hy hj => ?_,fun e=>h2.c8 (by simpa using e),fun e=>h2.c11 (by simpa using e),fun _=>⟨hx,hR⟩,fun e=>(by simpa using h2.s17 (by simpa using e)),fun e=>(by simpa using h2.s20 (by simpa using e)),fun _=>by simp,h2.fr,h2.bel,h2.box,by rw [e];exact h2.row⟩
 have hji:j≠14:=fun e=>by subst e;cases hy
 simp [hji] at hj ⊢
 exact h.v j y hy hj
theorem J5.store17 (h:J5 w wr base gR k N S GG rb box av kv pv r p vs W) (hc:p 8=true) (x:Value) (hg:base≤gR) (hrb:rb≠gR):J5 w wr base gR k N S GG rb box av kv pv r (fun j=>p j || j == 17) (fun j=>if j=17 then x else vs j) (W.setCell ⟨gR,k*7+1,none⟩ (vs 8)):=by
 have hf:=fr_set W gR (k*7+1) (vs 8)
 have hr:∀ {P:World→Prop},Rob (fun i=>i<base∨i=gR) W P→Rob (fun i=>i<base∨i=gR) (W.setCell ⟨gR,k*7+1,none⟩ (vs 8)) P:=fun {P} hP=>hP.fr hf fun _ _ e => .inr e
 have e:Gp GG k (fun j=>p j || j == 17) (fun j=>if j=17 then x else vs j)=updF (Gp GG k p vs) (k*7+1) (vs 8):=by
  funext j
  unfold updF
  by_cases hj:j=k*7+1
  · subst hj
    simp [Gp]
  · rw [if_neg hj]
    simp [Gp,hj]
 refine ⟨fun j y hy hj => ?_,fun e=>⟨(h.c8 (by simpa using e)).1,hr (h.c8 (by simpa using e)).2⟩,fun e=>⟨(h.c11 (by simpa using e)).1,hr (h.c11 (by simpa using e)).2⟩,fun e=>⟨(h.c14 (by simpa using e)).1,hr (h.c14 (by simpa using e)).2⟩,fun _=>(by simp [hc]),fun e=>(by simpa using h.s20 (by simpa using e)),fun e=>(by simpa using h.s23 (by simpa using e)),h.fr.trans hf fun _ _ e=>e,h.bel.setCell hg _,(hf.block rb (blk_lt h.box) hrb).trans h.box,by rw [e];exact h.row.set _ _⟩
 have hji:j≠17:=fun e=>by subst e;cases hy
 simp [hji] at hj ⊢
 exact h.v j y hy hj
theorem J5.store20 (h:J5 w wr base gR k N S GG rb box av kv pv r p vs W) (hc:p 11=true) (x:Value) (hg:base≤gR) (hrb:rb≠gR):J5 w wr base gR k N S GG rb box av kv pv r (fun j=>p j || j == 20) (fun j=>if j=20 then x else vs j) (W.setCell ⟨gR,k*7+2,none⟩ (vs 11)):=by
 have hf:=fr_set W gR (k*7+2) (vs 11)
 have hr:∀ {P:World→Prop},Rob (fun i=>i<base∨i=gR) W P→Rob (fun i=>i<base∨i=gR) (W.setCell ⟨gR,k*7+2,none⟩ (vs 11)) P:=fun {P} hP=>hP.fr hf fun _ _ e => .inr e
 have e:Gp GG k (fun j=>p j || j == 20) (fun j=>if j=20 then x else vs j)=updF (Gp GG k p vs) (k*7+2) (vs 11):=by
  funext j
  unfold updF
  by_cases hj:j=k*7+2
  · subst hj
    simp [Gp]
  · rw [if_neg hj]
    simp [Gp,hj]
 refine ⟨fun j y hy hj => ?_,fun e=>⟨(h.c8 (by simpa using e)).1,hr (h.c8 (by simpa using e)).2⟩,fun e=>⟨(h.c11 (by simpa using e)).1,hr (h.c11 (by simpa using e)).2⟩,fun e=>⟨(h.c14 (by simpa using e)).1,hr (h.c14 (by simpa using e)).2⟩,fun e=>(by simpa using h.s17 (by simpa using e)),fun _=>(by simp [hc]),fun e=>(by simpa using h.s23 (by simpa using e)),h.fr.trans hf fun _ _ e=>e,h.bel.setCell hg _,(hf.block rb (blk_lt h.box) hrb).trans h.box,by rw [e];exact h.row.set _ _⟩
 have hji:j≠20:=fun e=>by subst e;cases hy
 simp [hji] at hj ⊢
 exact h.v j y hy hj
theorem J5.store23 (h:J5 w wr base gR k N S GG rb box av kv pv r p vs W) (hc:p 14=true) (x:Value) (hg:base≤gR) (hrb:rb≠gR):J5 w wr base gR k N S GG rb box av kv pv r (fun j=>p j || j == 23) (fun j=>if j=23 then x else vs j) (W.setCell ⟨gR,k*7+3,none⟩ (vs 14)):=by
 have hf:=fr_set W gR (k*7+3) (vs 14)
 have hr:∀ {P:World→Prop},Rob (fun i=>i<base∨i=gR) W P→Rob (fun i=>i<base∨i=gR) (W.setCell ⟨gR,k*7+3,none⟩ (vs 14)) P:=fun {P} hP=>hP.fr hf fun _ _ e => .inr e
 have e:Gp GG k (fun j=>p j || j == 23) (fun j=>if j=23 then x else vs j)=updF (Gp GG k p vs) (k*7+3) (vs 14):=by
  funext j
  unfold updF
  by_cases hj:j=k*7+3
  · subst hj
    simp [Gp]
  · rw [if_neg hj]
    simp [Gp,hj]
 refine ⟨fun j y hy hj => ?_,fun e=>⟨(h.c8 (by simpa using e)).1,hr (h.c8 (by simpa using e)).2⟩,fun e=>⟨(h.c11 (by simpa using e)).1,hr (h.c11 (by simpa using e)).2⟩,fun e=>⟨(h.c14 (by simpa using e)).1,hr (h.c14 (by simpa using e)).2⟩,fun e=>(by simpa using h.s17 (by simpa using e)),fun e=>(by simpa using h.s20 (by simpa using e)),fun _=>(by simp [hc]),h.fr.trans hf fun _ _ e=>e,h.bel.setCell hg _,(hf.block rb (blk_lt h.box) hrb).trans h.box,by rw [e];exact h.row.set _ _⟩
 have hji:j≠23:=fun e=>by subst e;cases hy
 simp [hji] at hj ⊢
 exact h.v j y hy hj
end
theorem pr_vals {w:World} {A:Option Addr} {n c:Nat} {ps:List Pc} (h:PR w (.slice A n c) ps):∃ H:Nat→Value,∀ j,(hj:j<ps.length)→(∀ i,i<4→∃ g o,A=some ⟨g,o,none⟩∧w.cell? ⟨g,o+(j*4+i),none⟩=some (H (j*4+i)))∧H (j*4) = .int .i64 ps[j].k∧H (j*4+1) = .int .i64 ps[j].u∧H (j*4+2) = .int .i64 ps[j].y∧Rs w (H (j*4+3)) ps[j].tl:=by
 obtain ⟨a',c',e,h1,h2⟩:=h
 injection e with e1 e2 e3
 subst e1 e2 e3
 by_cases h0:ps=[]
 · subst h0
   exact ⟨fun _=>undef,fun j hj=>by simp at hj⟩
 · obtain ⟨g,o,rfl,hd⟩:=h2.resolve_left h0
   have hd':∀ (j:Nat) (hj:j<ps.length),∃ tv,w.cell? ⟨g,o+j*4,none⟩=some (.int .i64 ps[j].k)∧w.cell? ⟨g,o+j*4+1,none⟩=some (.int .i64 ps[j].u)∧w.cell? ⟨g,o+j*4+2,none⟩=some (.int .i64 ps[j].y)∧w.cell? ⟨g,o+j*4+3,none⟩=some tv∧Rs w tv ps[j].tl:=hd
   obtain ⟨H,hH⟩:∃ H:Nat→Value,∀ i v,w.cell? ⟨g,o+i,none⟩=some v→H i=v:=⟨fun i=>(w.cell? ⟨g,o+i,none⟩).getD undef,fun i v h=>by simp [h]⟩
   refine ⟨H,fun j hj => ?_⟩
   obtain ⟨tv,k0,k1,k2,k3,k4⟩:=hd' j hj
   rw [Nat.add_assoc] at k1 k2 k3
   have e0:=hH _ _ k0
   have e1:=hH _ _ k1
   have e2:=hH _ _ k2
   have e3:=hH _ _ k3
   refine ⟨fun i hi=>⟨g,o,rfl,?_⟩,e0,e1,e2,by rw [e3];exact k4⟩
   have:i=0∨i=1∨i=2∨i=3:=by omega
   rcases this with rfl | rfl | rfl | rfl
   · rw [Nat.add_zero,e0];exact k0
   · rw [e1];exact k1
   · rw [e2];exact k2
   · rw [e3];exact k3
structure IP (w wr W:World) (sz base gR N:Nat) (G5:Nat→Value) (A K P:Value) (r:Rl) (q1:Option Addr) (n5 q3:Nat) (H:Nat→Value) (rb:Nat) (box:Obj) (m:Nat):Prop where
 row:RowB W gR 61 G5 N
 ra:Rob (fun i=>i<base∨i=gR∨sz≤i) W fun V=>SR V A r.ante
 rk:Rob (fun i=>i<base∨i=gR∨sz≤i) W fun V=>SR V K r.key
 rp:Rob (fun i=>i<base∨i=gR∨sz≤i) W fun V=>SR V P r.post
 bel:Below base w W
 fr:Fr wr W fun i=>i=gR
 box:W.heap[rb]? = some box
 pc:n5=0∨∃ gP,q1=some ⟨gP,0,none⟩∧n5≤q3∧base≤gP∧sz≤gP∧wr.heap.size≤gP∧gP≠gR∧gP≠rb∧∃ H',RowB W gP 58 H' (n5*4)∧(∀ j,(hj:j<r.res.length)→j<m→Rob (fun i=>i<base∨i=gR∨i=gP) W fun V=>Rs V (H' (j*4+3)) r.res[j].tl)∧(∀ j,m≤j→H' (j*4+3)=H (j*4+3))∧∀ j,H' (j*4)=H (j*4)∧H' (j*4+1)=H (j*4+1)∧H' (j*4+2)=H (j*4+2)
theorem pcE_tl {ks:List (List (Int × Int))} {p:Pc} (h:pcE ks p=0):p.tl.length≤512:=by
 unfold pcE at h
 by_cases h1:p.k=1
 · rw [if_pos h1] at h
   by_cases h2:wd p.u=0∨p.y≠0∨p.tl≠[]
   · rw [if_pos h2] at h;cases h
   · have:p.tl=[]:=by
      by_cases e:p.tl=[]
      · exact e
      · exact absurd (.inr (.inr e)) h2
     rw [this];simp
 · rw [if_neg h1] at h
   by_cases h2:p.k=2∨p.k=3
   · rw [if_pos h2] at h
     by_cases h3:p.u≠0∨(p.k=2∧p.tl≠[])
     · rw [if_pos h3] at h;cases h
     · rw [if_neg h3] at h
       by_cases h4:p.y<0∨(ks.length:Int)≤p.y
       · rw [if_pos h4] at h;cases h
       · rw [if_neg h4] at h
         by_cases h5:p.k=3∧matB (keyAt ks p.y) p.tl=false
         · rw [if_pos h5] at h;cases h
         · rcases h2 with h2 | h2
           · have:p.tl=[]:=by
              by_cases e:p.tl=[]
              · exact e
              · exact absurd (.inr ⟨h2,e⟩) h3
             rw [this];simp
           · have hm:matB (keyAt ks p.y) p.tl=true:=by
              cases e:matB (keyAt ks p.y) p.tl with
              | true=>rfl
              | false=>exact absurd ⟨h2,e⟩ h5
             simp only [matB,validB,Bool.and_eq_true] at hm
             have:=hm.1
             simp at this
             omega
   · rw [if_neg h2] at h;cases h
theorem updF_at (F:Nat→Value) (i:Nat) (u:Value):updF F i u i=u:=by simp [updF]
theorem updF_ne (F:Nat→Value) {i j:Nat} (u:Value) (h:j≠i):updF F i u j=F j:=by simp [updF,h]
theorem two_box (w0 w:World) (v:Value) (hw:(w0.alloc (.cells #[v] 24)).alloc (.cells #[.slice none 0 0] 24)=w):Hid (Below w0.heap.size w0 w)∧w.cell? ⟨w0.heap.size,0,none⟩=some v∧Hid (w0.heap.size+1<w.heap.size∧w.heap[w0.heap.size+1]? = some (.cells #[.slice none 0 0] 24 (0,0))):=by
 have hb1:Below w0.heap.size w0 (w0.alloc (.cells #[v] 24)):=(Below.refl _ w0).alloc (Nat.le_refl _) _
 have hk1:w.heap[w0.heap.size]? = some (.cells #[v] 24 (0,0)):=by
  rw [←hw]
  exact ((((Below.refl _ _).alloc (Nat.le_refl _) _):Below (w0.alloc (.cells #[v] 24)).heap.size _ _).block _ (by simp)).trans (World.alloc_heap_new _ _)
 have hk2:w.heap[w0.heap.size+1]? = some (.cells #[.slice none 0 0] 24 (0,0)):=by
  rw [←hw]
  have:=World.alloc_heap_new (w0.alloc (.cells #[v] 24)) (.cells #[.slice none 0 0] 24)
  simpa using this
 refine ⟨?_,by rw [cell_of hk1];rfl,(Array.getElem?_eq_some_iff.1 hk2).1,hk2⟩
 show Below _ _ _
 rw [←hw]
 exact hb1.alloc hb1.size _
theorem ret_pass {tmps:Array Value} {W:World} {B:Nat} {a:Value} {R:Ending→World→Prop} (hp:tmps.getD 2 undef = .pointer (some ⟨B,0,none⟩)) (hb:W.heap[B]? = some (.cells #[a] 24 (0,0)))
 (K:R (.returned (.agg #[a])) W):bodyPost Tryz.prog Tryz.f42 R Exit.ret { tmps:=tmps,defers:=[] } W:=
 bodyPost_ret (v := .agg #[a]) (results_cell_row rfl tmps W B 24 _ _ _ hp hb Tryz.underlying24 rfl (by kernel_rfl)) rfl K
set_option maxHeartbeats 8000000 in
theorem ownPass_some (rg ro c:Nat) (rs:List Rl) (w0:World) (hR0:∀ (j:Nat) (hj:j<rs.length),RAt w0 rg (ro+j*7) rs[j]) (hn:rs.length≤256) (h0:rs≠[]) (hO:∀ r∈rs,Ok r) :
 Calls Tryz.prog 42 #[.agg #[.slice (some ⟨rg,ro,none⟩) rs.length c]] w0 fun e w'=>∃ v',e = .returned (.agg #[v'])∧Rob (fun k=>k<w0.heap.size) w' (fun W=>PsR W v' rs)∧Below w0.heap.size w0 w':=by
 obtain ⟨w,hw⟩:∃ w,(w0.alloc (.cells #[.slice (some ⟨rg,ro,none⟩) rs.length c] 24)).alloc (.cells #[.slice none 0 0] 24)=w:=⟨_,rfl⟩
 obtain ⟨HB0,hcw,HRB⟩:=two_box w0 w (.slice (some ⟨rg,ro,none⟩) rs.length c) hw
 have hR:∀ (j:Nat) (hj:j<rs.length),RAt w rg (ro+j*7) rs[j]:=fun j hj=>(hR0 j hj).below HB0.out (Nat.le_refl _)
 clear hR0
 obtain ⟨n,hN⟩:∃ n,rs.length=n:=⟨_,rfl⟩
 have HN:=Hid.mk' hN
 have hn0:n≠0:=fun e=>h0 (List.eq_nil_of_length_eq_zero (by omega))
 obtain ⟨F,hF⟩:∃ F:Nat→Value,∀ j (hj:j<rs.length),(∀ i,i<7→w.cell? ⟨rg,ro+(j*7+i),none⟩=some (F (j*7+i)))∧RulV w F j rs[j]:=by
  obtain ⟨F,hF⟩:∃ F:Nat→Value,∀ i v,w.cell? ⟨rg,ro+i,none⟩=some v→F i=v:=⟨fun i=>(w.cell? ⟨rg,ro+i,none⟩).getD undef,fun i v h=>by simp [h]⟩
  refine ⟨F,fun j hj => ?_⟩
  obtain ⟨av,kv,pv,rv,k0,k1,k2,k3,k4,k5,k6,hRR⟩:=hR j hj
  rw [Nat.add_assoc] at k1 k2 k3 k4 k5 k6
  have e0:=hF _ _ k0
  have e1:=hF _ _ k1
  have e2:=hF _ _ k2
  have e3:=hF _ _ k3
  have e4:=hF _ _ k4
  have e5:=hF _ _ k5
  have e6:=hF _ _ k6
  refine ⟨fun i hi => ?_,e0,e4,e6,by rw [e1,e2,e3,e5];exact hRR⟩
  have:i=0∨i=1∨i=2∨i=3∨i=4∨i=5∨i=6:=by omega
  rcases this with rfl | rfl | rfl | rfl | rfl | rfl | rfl
  · rw [Nat.add_zero,e0];exact k0
  · rw [e1];exact k1
  · rw [e2];exact k2
  · rw [e3];exact k3
  · rw [e4];exact k4
  · rw [e5];exact k5
  · rw [e6];exact k6
 have HF:=Hid.mk' hF
 have HC:Hid (Calls Tryz.prog 62 #[.slice (some ⟨rg,ro,none⟩) n c] w fun e w'=>∃ v',e = .returned v'∧w'.ownsRow w.heap.size 61 7 v' n ((List.range (n*7)).map F)∧Below w.heap.size w w'):=by
  refine clone58 w _ n c _ (fun e=>by cases e) (by simp) (fun j u hj => ?_) (fun u hu => ?_) (by omega)
  · obtain ⟨hj1,rfl⟩:=map_range_at F (n*7) j u hj
    refine ⟨_,rfl,?_⟩
    have:=(hF (j / 7) (by omega)).1 (j % 7) (by omega)
    rw [show j / 7*7+j % 7=j by omega] at this
    rw [add_none]
    exact this
  · obtain ⟨j,hj,rfl⟩:=List.mem_map.1 hu
    have hj:=List.mem_range.1 hj
    obtain ⟨v0,v4,v6,hRR⟩:=(hF (j / 7) (by omega)).2
    have:j % 7=0∨j % 7=1∨j % 7=2∨j % 7=3∨j % 7=4∨j % 7=5∨j % 7=6:=by omega
    rcases this with h | h | h | h | h | h | h
    · rw [show j=j / 7*7 by omega,v0];rfl
    · rw [show j=j / 7*7+1 by omega];exact isSl_one hRR.a.sl
    · rw [show j=j / 7*7+2 by omega];exact isSl_one hRR.k.sl
    · rw [show j=j / 7*7+3 by omega];exact isSl_one hRR.p.sl
    · rw [show j=j / 7*7+4 by omega,v4];rfl
    · rw [show j=j / 7*7+5 by omega];exact isSl_one hRR.r.sl
    · rw [show j=j / 7*7+6 by omega,v6];rfl
 rw [hN] at hw hcw ⊢
 have hnI:(n:Int)≤256:=by omega
 have HO:=Hid.mk' hO
 clear hR hF hO hN h0
 go_enter Tryz.func42,Tryz.ntmps42
 go_wp2_with (go_at_call 62;refine HC.out.mono ?_;rintro e w1 ⟨v1,rfl,hO1,hB⟩;obtain ⟨gR,cap,hv,hg,hcap,hrow⟩:=row_of hO1 hn0;subst hv;have HO1:=Hid.mk' (And.intro hg (And.intro hcap (And.intro hrow hB)));clear hO1 hB hrow)
 have HK0:Hid (OQ w w1 w.heap.size gR rs F 0 F):=by
  obtain ⟨k1,k2,⟨cur,k3,k5⟩,k4⟩:=HO1.out
  refine ⟨⟨cur,k3,fun j hj => ?_⟩,fun j _ hj=>by omega,fun j _=>rfl,k4⟩
  have hj2:j<n*7:=by have:=HN.out;omega
  rw [k5 j hj2]
  show some (((List.range (n*7)).map F).getD j undef)=_
  rw [List.getD_eq_getElem?_getD,List.getElem?_map,List.getElem?_range hj2]
  rfl
 go_loopw [4,5,6,7,13,49] (fun _ _ _ _ v12 _ wr=>∃ k:Nat,v12 = .int .i64 k∧k≤n∧Hid (∃ G,OQ w wr w.heap.size gR rs F k G)) (fun _ _ _ _ v12 _ _=>n - (intOf v12).toNat)
 case atStart=>exact ⟨0,rfl,by omega,_,HK0.out⟩
 case round=>
  obtain ⟨wo,hwo⟩:∃ wo,wo=wr:=⟨_,rfl⟩
  subst hwo
  obtain ⟨k,rfl,hk,HG⟩:=hrel
  obtain ⟨GG,hG⟩:=HG.out
  by_cases hlt:k<n
  · have hltI:(k:Int)<(n:Int):=by omega
    have hkl:k<rs.length:=by have:=HN.out;omega
    have hcI:(k:Int)<(cap:Int):=by omega
    obtain ⟨r,hr⟩:∃ r,rs[k]=r:=⟨_,rfl⟩
    obtain ⟨f0,f4,f6,hRR⟩:=(HF.out k hkl).2
    rw [hr] at f0 f4 f6 hRR
    have hOk:Ok r:=by rw [←hr];exact HO.out _ (List.getElem_mem hkl)
    have hRRr:RR wo (F (k*7+1)) (F (k*7+2)) (F (k*7+3)) (F (k*7+5)) r:=hRR.below hG.bel (Nat.le_refl _)
    have cel:∀ i,i<7→wo.cell? ⟨gR,k*7+i,none⟩=some (F (k*7+i)):=fun i hi=>by rw [hG.row.cell (by omega),hG.old _ (by omega)]
    obtain ⟨a1,n1,c1,e1⟩:=hRR.a.sl
    obtain ⟨ka,kn,kc,e2⟩:=hRR.k.sl
    obtain ⟨a3,n3,c3,e3⟩:=hRR.p.sl
    obtain ⟨a5,n5,c5,e5⟩:=hRR.r.sl
    have d0:wo.cell? ⟨gR,k*7,none⟩=some (.bool r.bg):=by rw [←f0];exact cel 0 (by omega)
    have d1:wo.cell? ⟨gR,k*7+1,none⟩=some (.slice a1 n1 c1):=by rw [←e1];exact cel 1 (by omega)
    have d2:wo.cell? ⟨gR,k*7+2,none⟩=some (.slice ka kn kc):=by rw [←e2];exact cel 2 (by omega)
    have d3:wo.cell? ⟨gR,k*7+3,none⟩=some (.slice a3 n3 c3):=by rw [←e3];exact cel 3 (by omega)
    have d4:wo.cell? ⟨gR,k*7+4,none⟩=some (.bool r.en):=by rw [←f4];exact cel 4 (by omega)
    have d5:wo.cell? ⟨gR,k*7+5,none⟩=some (.slice a5 n5 c5):=by rw [←e5];exact cel 5 (by omega)
    have d6:wo.cell? ⟨gR,k*7+6,none⟩=some (.int .i64 r.cu):=by rw [←f6];exact cel 6 (by omega)
    have HA:Hid (∀ W,Below w.heap.size w W→Calls Tryz.prog 63 #[.slice a1 n1 c1] W fun e w'=>∃ y1 y2 y3,e = .returned (.slice y1 y2 y3)∧Rob (fun i=>i<W.heap.size) w' (fun W=>SR W (.slice y1 y2 y3) r.ante)∧Below W.heap.size W w'):=fun W hb=>ownRow_sl _ _ W (by rw [←e1];exact hRR.a.below hb (Nat.le_refl _)) hOk.a8 hOk.aS
    have HK:Hid (∀ W,Below w.heap.size w W→Calls Tryz.prog 63 #[.slice ka kn kc] W fun e w'=>∃ y1 y2 y3,e = .returned (.slice y1 y2 y3)∧Rob (fun i=>i<W.heap.size) w' (fun W=>SR W (.slice y1 y2 y3) r.key)∧Below W.heap.size W w'):=fun W hb=>ownRow_sl _ _ W (by rw [←e2];exact hRR.k.below hb (Nat.le_refl _)) hOk.k8 hOk.kS
    have HP:Hid (∀ W,Below w.heap.size w W→Calls Tryz.prog 63 #[.slice a3 n3 c3] W fun e w'=>∃ y1 y2 y3,e = .returned (.slice y1 y2 y3)∧Rob (fun i=>i<W.heap.size) w' (fun W=>SR W (.slice y1 y2 y3) r.post)∧Below W.heap.size W w'):=fun W hb=>ownRow_sl _ _ W (by rw [←e3];exact hRR.p.below hb (Nat.le_refl _)) hOk.p8 hOk.pS
    have HB:=Hid.mk' (Below.refl wo.heap.size wo)
    have HGG:=Hid.mk' hG
    have HRX:=Hid.mk' (And.intro hRRr (And.intro hOk (And.intro e5 hr)))
    clear hG cel hRRr hRR hOk e1 e2 e3 e5 f0 f4 f6 hr
    generalize r.bg=xb at *
    generalize r.en=xe at *
    generalize r.cu=xc at *
    go_upto_region 5 with fail
    go_cut [] (fun wx=>Hid (∃ A K P,IsSl A∧IsSl K∧IsSl P∧RowB wx gR 61 (updF (updF (updF GG (k*7+1) A) (k*7+2) K) (k*7+3) P) (rs.length*7)∧Rob (fun i=>i<w.heap.size∨i=gR) wx (fun W=>SR W A r.ante)∧Rob (fun i=>i<w.heap.size∨i=gR) wx (fun W=>SR W K r.key)∧Rob (fun i=>i<w.heap.size∨i=gR) wx (fun W=>SR W P r.post)∧(Fr wo wx fun i=>i=gR)∧wx.heap[wo.heap.size]? = some (.cells #[.bool xb,.slice a1 n1 c1,.slice ka kn kc,.slice a3 n3 c3,.bool xe,.slice a5 n5 c5,.int .i64 xc] 61 (0,0))))
    case first=>
     refine wp_region_inv (by kernel_rfl) (by kernel_rfl) (by kernel_rfl) (by kernel_rfl) (J5 w wo w.heap.size gR k (rs.length*7) (.slice (some ⟨gR,0,none⟩) n cap) GG wo.heap.size (.cells #[.bool xb,.slice a1 n1 c1,.slice ka kn kc,.slice a3 n3 c3,.bool xe,.slice a5 n5 c5,.int .i64 xc] 61 (0,0)) (.slice a1 n1 c1) (.slice ka kn kc) (.slice a3 n3 c3) r) ?_ ⟨?_,?_,?_,?_,?_,?_,?_,?_,?_,?_,?_,?_,?_,?_,?_,?_,?_,?_,?_,?_,?_,?_,?_,?_,trivial⟩ ?_
     · have hG:=HGG.out
       have hgr:Grown wo (wo.alloc (.cells #[.bool xb,.slice a1 n1 c1,.slice ka kn kc,.slice a3 n3 c3,.bool xe,.slice a5 n5 c5,.int .i64 xc] 61)).drew:=((Grown.refl _).alloc _).drew
       have e:Gp GG k (fun _=>false) (fun _=>undef)=GG:=by funext i;simp [Gp]
       exact ⟨fun _ _ _ h=>(by cases h),fun h=>(by cases h),fun h=>(by cases h),fun h=>(by cases h),fun h=>(by cases h),fun h=>(by cases h),fun h=>(by cases h),fr_grown hgr _,hG.bel.trans (hgr.below.mono hG.bel.size),heap_alloc_new wo _,by rw [e];exact hG.row.fr (fr_grown hgr fun _=>False) id⟩
     · as_aux_lemma=>
        rename_i Jx Kx hJx hKx
        intro a wx p vs hJ hdep hpi hval hfr K hK
        have d:a.tmps.getD 3 undef=(Value.slice (some ⟨gR,0,none⟩) n cap):=hfr 3 (by kernel_rfl)
        exact step_value (v:=(Value.slice (some ⟨gR,0,none⟩) n cap)) (w':=wx) rfl (fun _ _ h=>by cases h) (rho [(3,(Value.slice (some ⟨gR,0,none⟩) n cap))]) (rho_of (by intro q hm;simp only [List.mem_cons,List.not_mem_nil,or_false] at hm;rcases hm with rfl;exact d) (by kernel_rfl)) (by kernel_rfl) (hK _ _ (hJ.put rfl))
     · as_aux_lemma=>
        rename_i Jx Kx hJx hKx
        intro a wx p vs hJ hdep hpi hval hfr K hK
        have d:a.tmps.getD 4 undef=(Value.int .i64 (k:Int)):=hfr 4 (by kernel_rfl)
        exact step_value (v:=(Value.int .i64 (k:Int))) (w':=wx) rfl (fun _ _ h=>by cases h) (rho [(4,(Value.int .i64 (k:Int)))]) (rho_of (by intro q hm;simp only [List.mem_cons,List.not_mem_nil,or_false] at hm;rcases hm with rfl;exact d) (by kernel_rfl)) (by kernel_rfl) (hK _ _ (hJ.put rfl))
     · as_aux_lemma=>
        rename_i Jx Kx hJx hKx
        intro a wx p vs hJ hdep hpi hval hfr K hK
        have d:a.tmps.getD 3 undef=(Value.slice (some ⟨gR,0,none⟩) n cap):=hfr 3 (by kernel_rfl)
        exact step_value (v:=(Value.slice (some ⟨gR,0,none⟩) n cap)) (w':=wx) rfl (fun _ _ h=>by cases h) (rho [(3,(Value.slice (some ⟨gR,0,none⟩) n cap))]) (rho_of (by intro q hm;simp only [List.mem_cons,List.not_mem_nil,or_false] at hm;rcases hm with rfl;exact d) (by kernel_rfl)) (by kernel_rfl) (hK _ _ (hJ.put rfl))
     · as_aux_lemma=>
        rename_i Jx Kx hJx hKx
        intro a wx p vs hJ hdep hpi hval hfr K hK
        have d:a.tmps.getD 4 undef=(Value.int .i64 (k:Int)):=hfr 4 (by kernel_rfl)
        exact step_value (v:=(Value.int .i64 (k:Int))) (w':=wx) rfl (fun _ _ h=>by cases h) (rho [(4,(Value.int .i64 (k:Int)))]) (rho_of (by intro q hm;simp only [List.mem_cons,List.not_mem_nil,or_false] at hm;rcases hm with rfl;exact d) (by kernel_rfl)) (by kernel_rfl) (hK _ _ (hJ.put rfl))
     · as_aux_lemma=>
        rename_i Jx Kx hJx hKx
        intro a wx p vs hJ hdep hpi hval hfr K hK
        have d:a.tmps.getD 3 undef=(Value.slice (some ⟨gR,0,none⟩) n cap):=hfr 3 (by kernel_rfl)
        exact step_value (v:=(Value.slice (some ⟨gR,0,none⟩) n cap)) (w':=wx) rfl (fun _ _ h=>by cases h) (rho [(3,(Value.slice (some ⟨gR,0,none⟩) n cap))]) (rho_of (by intro q hm;simp only [List.mem_cons,List.not_mem_nil,or_false] at hm;rcases hm with rfl;exact d) (by kernel_rfl)) (by kernel_rfl) (hK _ _ (hJ.put rfl))
     · as_aux_lemma=>
        rename_i Jx Kx hJx hKx
        intro a wx p vs hJ hdep hpi hval hfr K hK
        have d:a.tmps.getD 4 undef=(Value.int .i64 (k:Int)):=hfr 4 (by kernel_rfl)
        exact step_value (v:=(Value.int .i64 (k:Int))) (w':=wx) rfl (fun _ _ h=>by cases h) (rho [(4,(Value.int .i64 (k:Int)))]) (rho_of (by intro q hm;simp only [List.mem_cons,List.not_mem_nil,or_false] at hm;rcases hm with rfl;exact d) (by kernel_rfl)) (by kernel_rfl) (hK _ _ (hJ.put rfl))
     · as_aux_lemma=>
        rename_i Jx Kx hJx hKx
        intro a wx p vs hJ hdep hpi hval hfr K hK
        have d20:a.tmps.getD 5 undef=(Value.pointer (some ⟨wo.heap.size,0,none⟩)):=hfr 5 (by kernel_rfl)
        have hJ':=hJ.put (i:=6) rfl
        clear hval hfr hdep hJ HA HK HP HB HGG HRX HG HO HF HC HO1 HK0 HN hKx hJx
        simp only [Array.getD_eq_getD_getElem?] at d20
        go_simp
        exact hK _ _ hJ'
     · as_aux_lemma=>
        rename_i Jx Kx hJx hKx
        intro a wx p vs hJ hdep hpi hval hfr K hK
        have q6:=hdep 6 (by kernel_rfl)
        have d20:a.tmps.getD 24 undef=(Value.pointer (some ⟨wo.heap.size,1,none⟩)):=(hval 6 _ 24 q6 (by rfl) rfl).trans (hJ.v 6 _ rfl q6)
        have hc:wx.cell? ⟨wo.heap.size,1,none⟩=some (Value.slice a1 n1 c1):=by rw [cell_of hJ.box];rfl
        have hJ':=hJ.put (i:=7) rfl
        clear hval hfr hdep hJ HA HK HP HB HGG HRX HG HO HF HC HO1 HK0 HN hKx hJx
        simp only [Array.getD_eq_getD_getElem?] at d20
        go_simp
        exact hK _ _ hJ'
     · rename_i Jx Kx hJx hKx
       intro a wx p vs hJ hdep hpi hval hfr K hK
       have q:=hdep 7 (by kernel_rfl)
       have d20:a.tmps.getD 25 undef=(Value.slice a1 n1 c1):=(hval 7 _ 25 q (by rfl) rfl).trans (hJ.v 7 _ rfl q)
       have HCL:=Hid.mk' (HA.out wx hJ.bel)
       have HJ:=Hid.mk' hJ
       have hpi':=Hid.mk' hpi
       have hKK:=Hid.mk' hK
       clear hval hfr hdep hJ HA HK HP HB HG HO HF HC HO1 HK0 HN hKx hJx hpi hK q
       simp only [Array.getD_eq_getD_getElem?] at d20
       go_simp
       go_at_call 63
       refine HCL.out.mono ?_
       rintro e w5 ⟨y1,y2,y3,rfl,hr5,hb5⟩
       refine hKK.out _ _ (HJ.out.call8 hpi'.out hb5 ⟨y1,y2,y3,rfl⟩ (hr5.less fun i _ hi => ?_) ?_)
       · have:=HJ.out.row.lt
         have:=HJ.out.bel.size
         rcases hi with hi | hi <;> omega
       · exact HJ.out.bel.size
     · as_aux_lemma=>
        rename_i Jx Kx hJx hKx
        intro a wx p vs hJ hdep hpi hval hfr K hK
        have d20:a.tmps.getD 5 undef=(Value.pointer (some ⟨wo.heap.size,0,none⟩)):=hfr 5 (by kernel_rfl)
        have hJ':=hJ.put (i:=9) rfl
        clear hval hfr hdep hJ HA HK HP HB HGG HRX HG HO HF HC HO1 HK0 HN hKx hJx
        simp only [Array.getD_eq_getD_getElem?] at d20
        go_simp
        exact hK _ _ hJ'
     · as_aux_lemma=>
        rename_i Jx Kx hJx hKx
        intro a wx p vs hJ hdep hpi hval hfr K hK
        have q9:=hdep 9 (by kernel_rfl)
        have d20:a.tmps.getD 27 undef=(Value.pointer (some ⟨wo.heap.size,2,none⟩)):=(hval 9 _ 27 q9 (by rfl) rfl).trans (hJ.v 9 _ rfl q9)
        have hc:wx.cell? ⟨wo.heap.size,2,none⟩=some (Value.slice ka kn kc):=by rw [cell_of hJ.box];rfl
        have hJ':=hJ.put (i:=10) rfl
        clear hval hfr hdep hJ HA HK HP HB HGG HRX HG HO HF HC HO1 HK0 HN hKx hJx
        simp only [Array.getD_eq_getD_getElem?] at d20
        go_simp
        exact hK _ _ hJ'
     · rename_i Jx Kx hJx hKx
       intro a wx p vs hJ hdep hpi hval hfr K hK
       have q:=hdep 10 (by kernel_rfl)
       have d20:a.tmps.getD 28 undef=(Value.slice ka kn kc):=(hval 10 _ 28 q (by rfl) rfl).trans (hJ.v 10 _ rfl q)
       have HCL:=Hid.mk' (HK.out wx hJ.bel)
       have HJ:=Hid.mk' hJ
       have hpi':=Hid.mk' hpi
       have hKK:=Hid.mk' hK
       clear hval hfr hdep hJ HA HK HP HB HG HO HF HC HO1 HK0 HN hKx hJx hpi hK q
       simp only [Array.getD_eq_getD_getElem?] at d20
       go_simp
       go_at_call 63
       refine HCL.out.mono ?_
       rintro e w5 ⟨y1,y2,y3,rfl,hr5,hb5⟩
       refine hKK.out _ _ (HJ.out.call11 hpi'.out hb5 ⟨y1,y2,y3,rfl⟩ (hr5.less fun i _ hi => ?_) ?_)
       · have:=HJ.out.row.lt
         have:=HJ.out.bel.size
         rcases hi with hi | hi <;> omega
       · exact HJ.out.bel.size
     · as_aux_lemma=>
        rename_i Jx Kx hJx hKx
        intro a wx p vs hJ hdep hpi hval hfr K hK
        have d20:a.tmps.getD 5 undef=(Value.pointer (some ⟨wo.heap.size,0,none⟩)):=hfr 5 (by kernel_rfl)
        have hJ':=hJ.put (i:=12) rfl
        clear hval hfr hdep hJ HA HK HP HB HGG HRX HG HO HF HC HO1 HK0 HN hKx hJx
        simp only [Array.getD_eq_getD_getElem?] at d20
        go_simp
        exact hK _ _ hJ'
     · as_aux_lemma=>
        rename_i Jx Kx hJx hKx
        intro a wx p vs hJ hdep hpi hval hfr K hK
        have q12:=hdep 12 (by kernel_rfl)
        have d20:a.tmps.getD 30 undef=(Value.pointer (some ⟨wo.heap.size,3,none⟩)):=(hval 12 _ 30 q12 (by rfl) rfl).trans (hJ.v 12 _ rfl q12)
        have hc:wx.cell? ⟨wo.heap.size,3,none⟩=some (Value.slice a3 n3 c3):=by rw [cell_of hJ.box];rfl
        have hJ':=hJ.put (i:=13) rfl
        clear hval hfr hdep hJ HA HK HP HB HGG HRX HG HO HF HC HO1 HK0 HN hKx hJx
        simp only [Array.getD_eq_getD_getElem?] at d20
        go_simp
        exact hK _ _ hJ'
     · rename_i Jx Kx hJx hKx
       intro a wx p vs hJ hdep hpi hval hfr K hK
       have q:=hdep 13 (by kernel_rfl)
       have d20:a.tmps.getD 31 undef=(Value.slice a3 n3 c3):=(hval 13 _ 31 q (by rfl) rfl).trans (hJ.v 13 _ rfl q)
       have HCL:=Hid.mk' (HP.out wx hJ.bel)
       have HJ:=Hid.mk' hJ
       have hpi':=Hid.mk' hpi
       have hKK:=Hid.mk' hK
       clear hval hfr hdep hJ HA HK HP HB HG HO HF HC HO1 HK0 HN hKx hJx hpi hK q
       simp only [Array.getD_eq_getD_getElem?] at d20
       go_simp
       go_at_call 63
       refine HCL.out.mono ?_
       rintro e w5 ⟨y1,y2,y3,rfl,hr5,hb5⟩
       refine hKK.out _ _ (HJ.out.call14 hpi'.out hb5 ⟨y1,y2,y3,rfl⟩ (hr5.less fun i _ hi => ?_) ?_)
       · have:=HJ.out.row.lt
         have:=HJ.out.bel.size
         rcases hi with hi | hi <;> omega
       · exact HJ.out.bel.size
     · as_aux_lemma=>
        rename_i Jx Kx hJx hKx
        intro a wx p vs hJ hdep hpi hval hfr K hK
        have q0:=hdep 0 (by kernel_rfl)
        have d20:a.tmps.getD 18 undef=(Value.slice (some ⟨gR,0,none⟩) n cap):=(hval 0 _ 18 q0 (by rfl) rfl).trans (hJ.v 0 _ rfl q0)
        have q1:=hdep 1 (by kernel_rfl)
        have d21:a.tmps.getD 19 undef=(Value.int .i64 (k:Int)):=(hval 1 _ 19 q1 (by rfl) rfl).trans (hJ.v 1 _ rfl q1)
        have hJ':=hJ.put (i:=15) rfl
        clear hval hfr hdep hJ HA HK HP HB HGG HRX HG HO HF HC HO1 HK0 HN hKx hJx
        simp only [Array.getD_eq_getD_getElem?] at d20 d21
        go_simp
        exact hK _ _ hJ'
     · as_aux_lemma=>
        rename_i Jx Kx hJx hKx
        intro a wx p vs hJ hdep hpi hval hfr K hK
        have q15:=hdep 15 (by kernel_rfl)
        have d20:a.tmps.getD 33 undef=(Value.pointer (some ⟨gR,k*7,none⟩)):=(hval 15 _ 33 q15 (by rfl) rfl).trans (hJ.v 15 _ rfl q15)
        have hJ':=hJ.put (i:=16) rfl
        clear hval hfr hdep hJ HA HK HP HB HGG HRX HG HO HF HC HO1 HK0 HN hKx hJx
        simp only [Array.getD_eq_getD_getElem?] at d20
        go_simp
        exact hK _ _ hJ'
     · as_aux_lemma=>
        rename_i Jx Kx hJx hKx
        intro a wx p vs hJ hdep hpi hval hfr K hK
        have q1:=hdep 16 (by kernel_rfl)
        have q2:=hdep 8 (by kernel_rfl)
        have d20:a.tmps.getD 34 undef=(Value.pointer (some ⟨gR,k*7+1,none⟩)):=(hval 16 _ 34 q1 (by rfl) rfl).trans (hJ.v 16 _ rfl q1)
        have d21:a.tmps.getD 26 undef=vs 8:=hval 8 _ 26 q2 (by rfl) rfl
        obtain ⟨x1,x2,x3,hx⟩:=(hJ.c8 q2).1
        have hgl:k*7+1<rs.length*7:=by omega
        have hc:=hJ.row.cell hgl
        have hfz:wx.frozen? ⟨gR,k*7+1,none⟩=false:=hJ.row.free
        have hJ':=fun x=>hJ.store17 q2 x hg (by have:=HGG.out.row.lt;omega)
        rw [hx] at d21 hJ'
        clear hval hfr hdep hJ HA HK HP HB HGG HRX HG HO HF HC HO1 HK0 HN hKx hJx
        simp only [Array.getD_eq_getD_getElem?] at d20 d21
        obtain ⟨cu,hcu⟩:∃ cu,wx.cell? ⟨gR,k*7+1,none⟩=some cu:=⟨_,hc⟩
        clear hc
        go_simp
        exact hK undef _ (hJ' undef)
     · as_aux_lemma=>
        rename_i Jx Kx hJx hKx
        intro a wx p vs hJ hdep hpi hval hfr K hK
        have q2:=hdep 2 (by kernel_rfl)
        have d20:a.tmps.getD 20 undef=(Value.slice (some ⟨gR,0,none⟩) n cap):=(hval 2 _ 20 q2 (by rfl) rfl).trans (hJ.v 2 _ rfl q2)
        have q3:=hdep 3 (by kernel_rfl)
        have d21:a.tmps.getD 21 undef=(Value.int .i64 (k:Int)):=(hval 3 _ 21 q3 (by rfl) rfl).trans (hJ.v 3 _ rfl q3)
        have hJ':=hJ.put (i:=18) rfl
        clear hval hfr hdep hJ HA HK HP HB HGG HRX HG HO HF HC HO1 HK0 HN hKx hJx
        simp only [Array.getD_eq_getD_getElem?] at d20 d21
        go_simp
        exact hK _ _ hJ'
     · as_aux_lemma=>
        rename_i Jx Kx hJx hKx
        intro a wx p vs hJ hdep hpi hval hfr K hK
        have q18:=hdep 18 (by kernel_rfl)
        have d20:a.tmps.getD 35 undef=(Value.pointer (some ⟨gR,k*7,none⟩)):=(hval 18 _ 35 q18 (by rfl) rfl).trans (hJ.v 18 _ rfl q18)
        have hJ':=hJ.put (i:=19) rfl
        clear hval hfr hdep hJ HA HK HP HB HGG HRX HG HO HF HC HO1 HK0 HN hKx hJx
        simp only [Array.getD_eq_getD_getElem?] at d20
        go_simp
        exact hK _ _ hJ'
     · as_aux_lemma=>
        rename_i Jx Kx hJx hKx
        intro a wx p vs hJ hdep hpi hval hfr K hK
        have q1:=hdep 19 (by kernel_rfl)
        have q2:=hdep 11 (by kernel_rfl)
        have d20:a.tmps.getD 36 undef=(Value.pointer (some ⟨gR,k*7+2,none⟩)):=(hval 19 _ 36 q1 (by rfl) rfl).trans (hJ.v 19 _ rfl q1)
        have d21:a.tmps.getD 29 undef=vs 11:=hval 11 _ 29 q2 (by rfl) rfl
        obtain ⟨x1,x2,x3,hx⟩:=(hJ.c11 q2).1
        have hgl:k*7+2<rs.length*7:=by omega
        have hc:=hJ.row.cell hgl
        have hfz:wx.frozen? ⟨gR,k*7+2,none⟩=false:=hJ.row.free
        have hJ':=fun x=>hJ.store20 q2 x hg (by have:=HGG.out.row.lt;omega)
        rw [hx] at d21 hJ'
        clear hval hfr hdep hJ HA HK HP HB HGG HRX HG HO HF HC HO1 HK0 HN hKx hJx
        simp only [Array.getD_eq_getD_getElem?] at d20 d21
        obtain ⟨cu,hcu⟩:∃ cu,wx.cell? ⟨gR,k*7+2,none⟩=some cu:=⟨_,hc⟩
        clear hc
        go_simp
        exact hK undef _ (hJ' undef)
     · as_aux_lemma=>
        rename_i Jx Kx hJx hKx
        intro a wx p vs hJ hdep hpi hval hfr K hK
        have q4:=hdep 4 (by kernel_rfl)
        have d20:a.tmps.getD 22 undef=(Value.slice (some ⟨gR,0,none⟩) n cap):=(hval 4 _ 22 q4 (by rfl) rfl).trans (hJ.v 4 _ rfl q4)
        have q5:=hdep 5 (by kernel_rfl)
        have d21:a.tmps.getD 23 undef=(Value.int .i64 (k:Int)):=(hval 5 _ 23 q5 (by rfl) rfl).trans (hJ.v 5 _ rfl q5)
        have hJ':=hJ.put (i:=21) rfl
        clear hval hfr hdep hJ HA HK HP HB HGG HRX HG HO HF HC HO1 HK0 HN hKx hJx
        simp only [Array.getD_eq_getD_getElem?] at d20 d21
        go_simp
        exact hK _ _ hJ'
     · as_aux_lemma=>
        rename_i Jx Kx hJx hKx
        intro a wx p vs hJ hdep hpi hval hfr K hK
        have q21:=hdep 21 (by kernel_rfl)
        have d20:a.tmps.getD 37 undef=(Value.pointer (some ⟨gR,k*7,none⟩)):=(hval 21 _ 37 q21 (by rfl) rfl).trans (hJ.v 21 _ rfl q21)
        have hJ':=hJ.put (i:=22) rfl
        clear hval hfr hdep hJ HA HK HP HB HGG HRX HG HO HF HC HO1 HK0 HN hKx hJx
        simp only [Array.getD_eq_getD_getElem?] at d20
        go_simp
        exact hK _ _ hJ'
     · as_aux_lemma=>
        rename_i Jx Kx hJx hKx
        intro a wx p vs hJ hdep hpi hval hfr K hK
        have q1:=hdep 22 (by kernel_rfl)
        have q2:=hdep 14 (by kernel_rfl)
        have d20:a.tmps.getD 38 undef=(Value.pointer (some ⟨gR,k*7+3,none⟩)):=(hval 22 _ 38 q1 (by rfl) rfl).trans (hJ.v 22 _ rfl q1)
        have d21:a.tmps.getD 32 undef=vs 14:=hval 14 _ 32 q2 (by rfl) rfl
        obtain ⟨x1,x2,x3,hx⟩:=(hJ.c14 q2).1
        have hgl:k*7+3<rs.length*7:=by omega
        have hc:=hJ.row.cell hgl
        have hfz:wx.frozen? ⟨gR,k*7+3,none⟩=false:=hJ.row.free
        have hJ':=fun x=>hJ.store23 q2 x hg (by have:=HGG.out.row.lt;omega)
        rw [hx] at d21 hJ'
        clear hval hfr hdep hJ HA HK HP HB HGG HRX HG HO HF HC HO1 HK0 HN hKx hJx
        simp only [Array.getD_eq_getD_getElem?] at d20 d21
        obtain ⟨cu,hcu⟩:∃ cu,wx.cell? ⟨gR,k*7+3,none⟩=some cu:=⟨_,hc⟩
        clear hc
        go_simp
        exact hK undef _ (hJ' undef)
     · intro vs W hJ
       rw [putL_eq]
       simp only [putsL,List.set_cons_zero,List.set_cons_succ,Nat.zero_add,Nat.reduceAdd]
       have e:Gp GG k (fun j=>decide (j<24)) vs=updF (updF (updF GG (k*7+1) (vs 8)) (k*7+2) (vs 11)) (k*7+3) (vs 14):=by
        funext i
        simp only [Gp,updF]
        by_cases i1:i=k*7+1
        · subst i1;simp
        · by_cases i2:i=k*7+2
          · subst i2;simp
          · by_cases i3:i=k*7+3
            · subst i3;simp
            · simp [i1,i2,i3]
       have h8:=hJ.c8 rfl
       have h11:=hJ.c11 rfl
       have h14:=hJ.c14 rfl
       have hrw:=hJ.row
       have HJ:Hid (∃ A K P,IsSl A∧IsSl K∧IsSl P∧RowB W gR 61 (updF (updF (updF GG (k*7+1) A) (k*7+2) K) (k*7+3) P) (rs.length*7)∧Rob (fun i=>i<w.heap.size∨i=gR) W (fun W=>SR W A r.ante)∧Rob (fun i=>i<w.heap.size∨i=gR) W (fun W=>SR W K r.key)∧Rob (fun i=>i<w.heap.size∨i=gR) W (fun W=>SR W P r.post)∧(Fr wo W fun i=>i=gR)∧W.heap[wo.heap.size]? = some (.cells #[.bool xb,.slice a1 n1 c1,.slice ka kn kc,.slice a3 n3 c3,.bool xe,.slice a5 n5 c5,.int .i64 xc] 61 (0,0))):=⟨vs 8,vs 11,vs 14,h8.1,h11.1,h14.1,by rw [←e];exact hrw,h8.2,h11.2,h14.2,hJ.fr,hJ.box⟩
       clear hJ h8 h11 h14 hrw e
       rename_i Jx Kx hJx hKx
       refine hKx _ _ (Met.intro (hJx _ _ ?_))
       (repeat apply Exists.intro)
       exact ⟨HJ,rfl⟩
    case rest=>
     obtain ⟨A,K,P,⟨A1,A2,A3,hA⟩,⟨K1,K2,K3,hK⟩,⟨P1,P2,P3,hP⟩,hrow,hRA,hRK,hRP,hfr,hbox⟩:=hcut.out
     have hbc:Below w.heap.size w wc:=HGG.out.bel.trans (hfr.below (fun i e=>by omega) HGG.out.bel.size)
     have b5:wc.cell? ⟨wo.heap.size,5,none⟩=some (.slice a5 n5 c5):=by rw [cell_of hbox];rfl
     obtain ⟨hRRr,hOk,e5,hrk⟩:=HRX.out
     have hPR:PR w (.slice a5 n5 c5) r.res:=by
      have:=(HF.out k hkl).2.2.2.2.r
      rw [hrk] at this
      rw [←e5]
      exact this
     obtain ⟨H,HH⟩:=pr_vals hPR
     have HH':=Hid.mk' HH
     have hn5:r.res.length=n5:=by
      obtain ⟨a',c',e,_,_⟩:=hPR
      injection e with _ e2 _
      exact e2.symm
     have hn16:n5≤16:=by have:=hOk.r16;omega
     have HC5:Hid (Calls Tryz.prog 64 #[.slice a5 n5 c5] wc fun e w'=>∃ v',e = .returned v'∧w'.ownsRow wc.heap.size 58 4 v' n5 ((List.range (n5*4)).map H)∧Below wc.heap.size wc w'):=by
      refine clone60 wc a5 n5 c5 _ (fun e => ?_) (by simp) (fun j u hj => ?_) (fun u hu => ?_) (by omega)
      · by_cases e0:n5=0
        · exact e0
        · obtain ⟨pg,po,e1,_⟩:=(HH 0 (by omega)).1 0 (by omega)
          rw [e] at e1;cases e1
      · obtain ⟨hj1,rfl⟩:=map_range_at H (n5*4) j u hj
        obtain ⟨pg,po,e1,e2⟩:=(HH (j / 4) (by omega)).1 (j % 4) (by omega)
        refine ⟨_,e1,?_⟩
        rw [add_none]
        rw [show j / 4*4+j % 4=j by omega] at e2
        exact cell_below e2 hbc (Nat.le_refl _)
      · obtain ⟨j,hj,rfl⟩:=List.mem_map.1 hu
        have hj:=List.mem_range.1 hj
        obtain ⟨q0,q1,q2,q3⟩:=(HH (j / 4) (by omega)).2
        have:j % 4=0∨j % 4=1∨j % 4=2∨j % 4=3:=by omega
        rcases this with h | h | h | h
        · rw [show j=j / 4*4 by omega,q0];rfl
        · rw [show j=j / 4*4+1 by omega,q1];rfl
        · rw [show j=j / 4*4+2 by omega,q2];rfl
        · rw [show j=j / 4*4+3 by omega];exact isSl_one q3.sl
     have HX5:=Hid.mk' (And.intro hrow (And.intro hRA (And.intro hRK (And.intro hRP (And.intro hbox (And.intro hbc hfr))))))
     have HSC:Hid (∀ i,k*7≤i→GG i=F i):=HGG.out.old
     have HAKP:=Hid.mk' (And.intro hA (And.intro hK hP))
     have HN5:=Hid.mk' hn5
     have hn5I:(n5:Int)≤16:=by omega
     clear hcut hrow hRA hRK hRP hfr hbox hbc hRRr hOk e5 hrk hPR HH hn5 HA HK HP HB
     go_upto_region 7 with (go_at_call 64;go_must (refine HC5.out.mono ?_;rintro e w5 ⟨v5,rfl,hO5,hB5⟩;obtain ⟨q1,q3,hv5⟩:=own_sl2 hO5;subst hv5;have HO5:=Hid.mk' (And.intro hO5 hB5);have hrow5:=HX5.out.1.fr (fr_below hB5 (Nat.le_refl _) fun _=>False) id;have h5c:=hrow5.cell (j:=k*7+5) (by omega);have h5f:w5.frozen? ⟨gR,k*7+5,none⟩=false:=hrow5.free;clear hO5 hB5 hrow5))
     obtain ⟨W7,hW7⟩:∃ W7,W7=w5.setCell ⟨gR,k*7+5,none⟩ (.slice q1 n5 q3):=⟨_,rfl⟩
     obtain ⟨box,hbx⟩:∃ box:Obj,box = .cells #[.bool xb,.slice a1 n1 c1,.slice ka kn kc,.slice a3 n3 c3,.bool xe,.slice a5 n5 c5,.int .i64 xc] 61 (0,0):=⟨_,rfl⟩
     have HI0:Hid (IP w wo W7 wc.heap.size w.heap.size gR (rs.length*7) (updF (updF (updF (updF GG (k*7+1) A) (k*7+2) K) (k*7+3) P) (k*7+5) (.slice q1 n5 q3)) A K P r q1 n5 q3 H wo.heap.size box 0):=by
      obtain ⟨x1,x2,x3,x4,x5,x6,x7⟩:=HX5.out
      obtain ⟨o1,o2⟩:=HO5.out
      have hfb:∀ X,Fr wc w5 X:=fun X=>fr_below o2 (Nat.le_refl _) X
      have hfs:=fr_set w5 gR (k*7+5) (.slice q1 n5 q3)
      have hgl:=HGG.out.row.lt
      have hwb:=HGG.out.bel.size
      have hwc:=x7.size
      have up:∀ {Q:World→Prop},Rob (fun i=>i<w.heap.size∨i=gR) wc Q→Rob (fun i=>i<w.heap.size∨i=gR∨wc.heap.size≤i) W7 Q:=fun {Q} hq=>by
       rw [hW7]
       refine ((hq.less (Y:=fun i=>i<w.heap.size∨i=gR∨wc.heap.size≤i) fun i hi e => ?_).fr (hfb fun _=>False) fun _ _ e=>e.elim).fr hfs fun _ _ e => .inr (.inl e)
       rcases e with e | e | e
       · exact .inl e
       · exact .inr e
       · omega
      rw [hbx]
      refine ⟨by rw [hW7];exact (x1.fr (hfb fun _=>False) id).set _ _,up x2,up x3,up x4,by rw [hW7];exact (x6.trans (o2.mono x6.size)).setCell hg _,by rw [hW7];exact (x7.trans (hfb _) fun _ _ e=>e).trans hfs fun _ _ e=>e,by rw [hW7];exact (hfs.block _ (by have:=blk_lt x5;have:=o2.size;omega) (by omega)).trans ((o2.block _ (blk_lt x5)).trans x5),?_⟩
      by_cases h50:n5=0
      · exact .inl h50
      · obtain ⟨gP,cp,ev,g1,g2,hrP⟩:=row_of o1 h50
        injection ev with ev1 _ ev3
        have hgP:gP≠gR:=by omega
        have hgx:=blk_lt x5
        refine .inr ⟨gP,ev1,by omega,by omega,by omega,by omega,hgP,by omega,_,?_,fun j _ hj=>by omega,fun j _=>rfl,fun j=>⟨rfl,rfl,rfl⟩⟩
        have hrP2:RowB W7 gP 58 (fun j=>((List.range (n5*4)).map H).getD j undef) (n5*4):=by rw [hW7];exact hrP.fr hfs hgP
        obtain ⟨cur,y1,y2⟩:=hrP2
        refine ⟨cur,y1,fun j hj => ?_⟩
        rw [y2 j hj]
        show some (((List.range (n5*4)).map H).getD j undef)=_
        rw [List.getD_eq_getElem?_getD,List.getElem?_map,List.getElem?_range hj]
        rfl
     have b7:W7.cell? ⟨wo.heap.size,5,none⟩=some (.slice a5 n5 c5):=by
      rw [cell_of (HI0.out.box.trans (congrArg some hbx))];rfl
     rw [←hW7]
     clear hW7 HX5 HO5 HC5 h5c h5f b5
     go_wp2
     go_loopw [6,7,49] (fun _ _ v48 wz=>∃ m:Nat,v48 = .int .i64 m∧m≤n5∧Hid (IP w wo wz wc.heap.size w.heap.size gR (rs.length*7) (updF (updF (updF (updF GG (k*7+1) A) (k*7+2) K) (k*7+3) P) (k*7+5) (.slice q1 n5 q3)) A K P r q1 n5 q3 H wo.heap.size box m)) (fun _ _ v48 _=>n5 - (intOf v48).toNat)
     case atStart=>exact ⟨0,rfl,by omega,HI0.out⟩
     case round=>
      obtain ⟨m,rfl,hm,HM⟩:=hrel
      by_cases hmt:m<n5
      · have hmI:(m:Int)<(n5:Int):=by omega
        have hml:m<r.res.length:=by have:=HN5.out;omega
        obtain ⟨hcell,z0,z1,z2,z3⟩:=HH'.out m hml
        obtain ⟨pg,po,ea,_⟩:=hcell 0 (by omega)
        subst ea
        have hc4:∀ i,i<4→wr.cell? ⟨pg,po+m*4+i,none⟩=some (H (m*4+i)):=fun i hi=>by
         obtain ⟨pg',po',ea,hc⟩:=hcell i hi
         injection ea with ea
         injection ea with ea1 ea2 _
         subst ea1 ea2
         rw [Nat.add_assoc]
         exact cell_below hc HM.out.bel (Nat.le_refl _)
        have hM:=HM.out
        obtain ⟨gP,eq1,hq3,hgP0,hgPs,hgPo,hgPR,hgPb,H',hrP,hnew,hold,hsc⟩:=hM.pc.resolve_left (by omega)
        subst eq1
        obtain ⟨x1,x2,x3,hx⟩:=z3.sl
        have k0:wr.cell? ⟨pg,po+m*4,none⟩=some (.int .i64 r.res[m].k):=by rw [←z0];exact hc4 0 (by omega)
        have k1:wr.cell? ⟨pg,po+m*4+1,none⟩=some (.int .i64 r.res[m].u):=by rw [←z1];exact hc4 1 (by omega)
        have k2:wr.cell? ⟨pg,po+m*4+2,none⟩=some (.int .i64 r.res[m].y):=by rw [←z2];exact hc4 2 (by omega)
        have k3:wr.cell? ⟨pg,po+m*4+3,none⟩=some (.slice x1 x2 x3):=by rw [←hx];exact hc4 3 (by omega)
        have hl5:r.res[m].tl.length≤4294967296:=by
         have hO:=HRX.out.2.1.pc _ (List.getElem_mem hml)
         exact Nat.le_trans (pcE_tl hO) (by omega)
        have hrR:wr.cell? ⟨gR,k*7+5,none⟩=some (.slice (some ⟨gP,0,none⟩) n5 q3):=by rw [hM.row.cell (by omega),updF_at]
        have hrR2:∀ ob,(wr.alloc ob).cell? ⟨gR,k*7+5,none⟩=some (.slice (some ⟨gP,0,none⟩) n5 q3):=fun ob=>cell_up hrR ob
        have HCl:Hid (∀ W,Grown wr W→Calls Tryz.prog 65 #[.slice x1 x2 x3] W fun e w'=>∃ y1 y2 y3,e = .returned (.slice y1 y2 y3)∧Rob (fun i=>i<wr.heap.size) w' (fun V=>Rs V (.slice y1 y2 y3) r.res[m].tl)∧Below wr.heap.size wr w'):=fun W hgw=>by
         refine (clone_rs (.slice x1 x2 x3) r.res[m].tl W (by rw [←hx];exact (z3.below hM.bel (Nat.le_refl _)).below hgw.below (Nat.le_refl _)) hl5).mono ?_
         rintro e w' ⟨v',rfl,⟨y1,y2,y3,rfl⟩,h1,h2⟩
         exact ⟨y1,y2,y3,rfl,h1.less (fun i _ hi=>Nat.lt_of_lt_of_le hi hgw.size),hgw.below.trans (h2.mono hgw.size)⟩
        have HCE:Hid (∀ w',Below wr.heap.size wr w'→w'.cell? ⟨gR,k*7+5,none⟩=some (.slice (some ⟨gP,0,none⟩) n5 q3)∧w'.cell? ⟨gP,m*4+3,none⟩=some (.slice x1 x2 x3)∧w'.frozen? ⟨gP,m*4+3,none⟩=false):=fun w' hb=>by
         have hr2:=hrP.fr (fr_below hb (Nat.le_refl _) fun _=>False) id
         refine ⟨cell_below hrR hb (Nat.le_refl _),?_,hr2.free⟩
         rw [hr2.cell (by omega),hold m (Nat.le_refl _),hx]
        have HMM:=Hid.mk' (And.intro hM (And.intro hrP (And.intro hnew (And.intro hold hsc))))
        obtain ⟨pk,hpk⟩:∃ pk,r.res[m].k=pk:=⟨_,rfl⟩
        obtain ⟨pu,hpu⟩:∃ pu,r.res[m].u=pu:=⟨_,rfl⟩
        obtain ⟨py,hpy⟩:∃ py,r.res[m].y=py:=⟨_,rfl⟩
        rw [hpk] at k0
        rw [hpu] at k1
        rw [hpy] at k2
        have m0:(0:Int)≤(m:Int):=by omega
        have kI0:(0:Int)≤(k:Int):=by omega
        have mqI:(m:Int)<(q3:Int):=by omega
        clear hM hrP hnew hold hsc hcell hc4 z0 z1 z2 z3 hpk hpu hpy hl5
        go_wp2
        go_region_with (go_at_call 65;go_must (refine (HCl.out _ (by (repeat (first | exact Grown.refl _ | refine Grown.alloc ?_ _ | refine Grown.drew ?_ | refine Grown.drewN ?_ _ | refine Grown.quiet ?_ _ _)))).mono ?_;rintro e w8 ⟨y1,y2,y3,rfl,hr8,hb8⟩;have H8:=Hid.mk' (And.intro hr8 hb8);obtain ⟨e81,e82,e83⟩:=HCE.out w8 hb8;clear hr8 hb8))
        all_goals
         have HIP:Hid (IP w wo (w8.setCell ⟨gP,m*4+3,none⟩ (.slice y1 y2 y3)) wc.heap.size w.heap.size gR (rs.length*7) (updF (updF (updF (updF GG (k*7+1) A) (k*7+2) K) (k*7+3) P) (k*7+5) (.slice (some ⟨gP,0,none⟩) n5 q3)) A K P r (some ⟨gP,0,none⟩) n5 q3 H wo.heap.size box (m+1)):=by
          obtain ⟨hM,hrP,hnew,hold,hsc⟩:=HMM.out
          obtain ⟨hr8,hb8⟩:=H8.out
          have hfb:∀ X,Fr wr w8 X:=fun X=>fr_below hb8 (Nat.le_refl _) X
          have hfs:=fr_set w8 gP (m*4+3) (.slice y1 y2 y3)
          have hgPl:=hrP.lt
          have hgRl:=hM.row.lt
          have up:∀ {Q:World→Prop},Rob (fun i=>i<w.heap.size∨i=gR∨wc.heap.size≤i) wr Q→Rob (fun i=>i<w.heap.size∨i=gR∨wc.heap.size≤i) (w8.setCell ⟨gP,m*4+3,none⟩ (.slice y1 y2 y3)) Q:=fun {Q} hq=>(hq.fr (hfb fun _=>False) fun _ _ e=>e.elim).fr hfs fun i _ e => .inr (.inr (by omega))
          refine ⟨(hM.row.fr (hfb fun _=>False) id).fr hfs (fun e=>hgPR e.symm),up hM.ra,up hM.rk,up hM.rp,(hM.bel.trans (hb8.mono hM.bel.size)).setCell (by exact hgP0) _,(hM.fr.trans (hfb _) fun _ _ e=>e).trans hfs fun i hi e=>(by omega),(hfs.block _ (by have:=blk_lt hM.box;have:=hb8.size;omega) (fun e=>hgPb e.symm)).trans ((hb8.block _ (blk_lt hM.box)).trans hM.box),.inr ⟨gP,rfl,hq3,hgP0,hgPs,hgPo,hgPR,hgPb,updF H' (m*4+3) (.slice y1 y2 y3),(hrP.fr (hfb fun _=>False) id).set _ _,fun j hj hjm => ?_,fun j hj => ?_,fun j => ?_⟩⟩
          · by_cases e:j=m
            · subst e
              rw [updF_at]
              refine Rob.fr (hr8.less fun i _ hi => ?_) hfs fun i _ e => .inr (.inr e)
              rcases hi with hi | hi | hi
              · have:=hM.bel.size;show i<wr.heap.size;omega
              · show i<wr.heap.size;omega
              · show i<wr.heap.size;omega
            · rw [updF_ne _ _ (by omega)]
              exact ((hnew j hj (by omega)).fr (hfb fun _=>False) fun _ _ e=>e.elim).fr hfs fun i _ e => .inr (.inr e)
          · rw [updF_ne _ _ (by omega)]
            exact hold j (by omega)
          · rw [updF_ne _ _ (by omega),updF_ne _ _ (by omega),updF_ne _ _ (by omega)]
            exact hsc j
         go_wp2
         exact ⟨⟨m+1,by go_num,by omega,HIP.out⟩,by simp [intOf];omega⟩
      · obtain rfl:m=n5:=by omega
        have hge:¬ (m:Int)<(m:Int):=by omega
        have HOQ:Hid (∃ G,OQ w wr w.heap.size gR rs F (k+1) G):=by
         have hM:=HM.out
         have hG:=HGG.out
         refine ⟨_,hM.row,fun j hj hjk => ?_,fun i hi => ?_,hM.bel⟩
         · by_cases e:j=k
           · subst e
             obtain ⟨_,_,_,hrk⟩:=HRX.out
             intro V hf
             have f5:(updF (updF (updF (updF GG (j*7+1) A) (j*7+2) K) (j*7+3) P) (j*7+5) (.slice q1 m q3)) (j*7+5) = .slice q1 m q3:=updF_at _ _ _
             have f1:(updF (updF (updF (updF GG (j*7+1) A) (j*7+2) K) (j*7+3) P) (j*7+5) (.slice q1 m q3)) (j*7+1)=A:=by rw [updF_ne _ _ (by omega),updF_ne _ _ (by omega),updF_ne _ _ (by omega),updF_at]
             have f2:(updF (updF (updF (updF GG (j*7+1) A) (j*7+2) K) (j*7+3) P) (j*7+5) (.slice q1 m q3)) (j*7+2)=K:=by rw [updF_ne _ _ (by omega),updF_ne _ _ (by omega),updF_at]
             have f3:(updF (updF (updF (updF GG (j*7+1) A) (j*7+2) K) (j*7+3) P) (j*7+5) (.slice q1 m q3)) (j*7+3)=P:=by rw [updF_ne _ _ (by omega),updF_at]
             have fo:∀ i,j*7≤i→i≠j*7+1→i≠j*7+2→i≠j*7+3→i≠j*7+5→(updF (updF (updF (updF GG (j*7+1) A) (j*7+2) K) (j*7+3) P) (j*7+5) (.slice q1 m q3)) i=F i:=fun i h0 h1 h2 h3 h5=>by rw [updF_ne _ _ h5,updF_ne _ _ h3,updF_ne _ _ h2,updF_ne _ _ h1,hG.old i h0]
             obtain ⟨v0,v4,v6,_⟩:=(HF.out j hj).2
             have less:∀ {Q:World→Prop},Rob (fun i=>i<w.heap.size∨i=gR∨wc.heap.size≤i) wr Q→Q V:=fun {Q} hq=>hq V (hf.mono fun i _ e=>e.elim .inl fun e => .inr (.inl e))
             refine ⟨by rw [fo _ (by omega) (by omega) (by omega) (by omega) (by omega)];exact v0,by rw [fo _ (by omega) (by omega) (by omega) (by omega) (by omega)];exact v4,by rw [fo _ (by omega) (by omega) (by omega) (by omega) (by omega)];exact v6,?_⟩
             rw [f1,f2,f3,f5,hrk]
             refine ⟨less hM.ra,less hM.rk,less hM.rp,?_⟩
             rcases hM.pc with h5 | ⟨gP,eq1,hq3,hgP0,hgPs,hgPo,hgPR,hgPb,H',hrP,hnew,hold,hsc⟩
             · have hr0:r.res=[]:=List.eq_nil_of_length_eq_zero (by have:=HN5.out;omega)
               rw [hr0,h5]
               exact ⟨q1,q3,rfl,Nat.zero_le _,.inl rfl⟩
             · refine ⟨q1,q3,by rw [HN5.out],by rw [HN5.out];exact hq3,.inr ⟨gP,0,eq1,fun i hi => ?_⟩⟩
               obtain ⟨_,z0,z1,z2,z3⟩:=HH'.out i hi
               have hrV:=hrP.fr hf (fun e=>by rcases e with e | e <;> omega)
               have hi5:i<m:=by have:=HN5.out;omega
               rw [Nat.zero_add]
               refine ⟨H' (i*4+3),?_,?_,?_,hrV.cell (by omega),?_⟩
               · rw [hrV.cell (by omega),(hsc i).1,z0]
               · rw [hrV.cell (by omega),(hsc i).2.1,z1]
               · rw [hrV.cell (by omega),(hsc i).2.2,z2]
               · exact hnew i hi hi5 V (hf.mono fun i _ e=>e.elim .inl fun e => .inr (.inl e))
           · have hold:=(hG.new j hj (by omega)).fr hM.fr fun i _ e => .inr e
             intro V hf
             have hv:=hold V hf
             unfold RulV at hv ⊢
             rw [updF_ne _ _ (by omega),updF_ne _ _ (by omega),updF_ne _ _ (by omega),updF_ne _ _ (by omega),updF_ne _ _ (by omega),updF_ne _ _ (by omega),updF_ne _ _ (by omega),updF_ne _ _ (by omega),updF_ne _ _ (by omega),updF_ne _ _ (by omega),updF_ne _ _ (by omega),updF_ne _ _ (by omega),updF_ne _ _ (by omega),updF_ne _ _ (by omega),updF_ne _ _ (by omega),updF_ne _ _ (by omega),updF_ne _ _ (by omega),updF_ne _ _ (by omega),updF_ne _ _ (by omega),updF_ne _ _ (by omega),updF_ne _ _ (by omega),updF_ne _ _ (by omega),updF_ne _ _ (by omega),updF_ne _ _ (by omega),updF_ne _ _ (by omega),updF_ne _ _ (by omega),updF_ne _ _ (by omega),updF_ne _ _ (by omega)]
             exact hv
         · rw [updF_ne _ _ (by omega),updF_ne _ _ (by omega),updF_ne _ _ (by omega),updF_ne _ _ (by omega)]
           exact hG.old i (by omega)
        clear HM
        go_wp2
        go_roundw
        case rel=>
         exact ⟨k+1,by go_num,by omega,HOQ.out⟩
        case measure=>simp [intOf];omega
  · obtain rfl:k=n:=by omega
    have hge:¬ (k:Int)<(k:Int):=by omega
    have HGG:=Hid.mk' hG
    have hbb:wo.heap[w0.heap.size+1]? = some (.cells #[.slice none 0 0] 24 (0,0)):=(hG.bel.block _ HRB.out.1).trans HRB.out.2
    have c0:wo.cell? ⟨w0.heap.size+1,0,none⟩=some (.slice none 0 0):=by rw [cell_of hbb];rfl
    have f0:wo.frozen? ⟨w0.heap.size+1,0,none⟩=false:=free_of hbb
    have HBB:Hid ((wo.setCell ⟨w0.heap.size+1,0,none⟩ (.slice (some ⟨gR,0,none⟩) k cap)).heap[w0.heap.size+1]? = some (.cells #[.slice (some ⟨gR,0,none⟩) k cap] 24 (0,0))):=set_heap hbb
    clear hG hbb
    go_wp2
    refine ret_pass rfl HBB.out ?_
    have hG:=HGG.out
    refine ⟨.slice (some ⟨gR,0,none⟩) k cap,rfl,fun W hf0 => ?_,(HB0.out.trans (hG.bel.mono HB0.out.size)).setCell (Nat.le_succ _) _⟩
    have hf:Fr wo W (fun i=>i<w.heap.size):=((fr_set wo (w0.heap.size+1) 0 (.slice (some ⟨gR,0,none⟩) k cap)).mono (C:=fun i=>i<w.heap.size) fun i _ e=>by have:=HRB.out.1;omega).trans hf0 fun i _ e=>Nat.lt_of_lt_of_le e HB0.out.size
    refine ⟨some ⟨gR,0,none⟩,cap,by rw [HN.out],by rw [HN.out];exact hcap,.inr ⟨gR,0,rfl,fun j hj => ?_⟩⟩
    obtain ⟨v0,v4,v6,hRR⟩:=(hG.new j hj (by have:=HN.out;omega)) W (hf.mono fun i _ e => .inl e)
    have hrW:=hG.row.fr hf (fun e=>by have:gR<w.heap.size:=e;omega)
    rw [Nat.zero_add]
    exact ⟨_,_,_,_,by rw [←v0];exact hrW.cell (by omega),hrW.cell (by omega),hrW.cell (by omega),hrW.cell (by omega),by rw [←v4];exact hrW.cell (by omega),hrW.cell (by omega),by rw [←v6];exact hrW.cell (by omega),hRR⟩
theorem ownPass_any (v:Value) (rs:List Rl) (w0:World) (h:PsR w0 v rs) (hn:rs.length≤256) (hO:∀ r∈rs,Ok r) :
 Calls Tryz.prog 42 #[.agg #[v]] w0 fun e w'=>∃ v',e = .returned (.agg #[v'])∧IsSl v'∧Rob (fun k=>k<w0.heap.size) w' (fun W=>PsR W v' rs)∧Below w0.heap.size w0 w':=by
 obtain ⟨A,c,rfl,h1,h2⟩:=h
 by_cases h0:rs=[]
 · subst h0
   rw [show ([]:List Rl).length=0 from rfl]
   obtain ⟨w,hw⟩:∃ w,(w0.alloc (.cells #[.slice A 0 c] 24)).alloc (.cells #[.slice none 0 0] 24)=w:=⟨_,rfl⟩
   obtain ⟨HB0,hcw,HRB⟩:=two_box w0 w (.slice A 0 c) hw
   have HC:Hid (Calls Tryz.prog 62 #[.slice A 0 c] w fun e w'=>∃ v',e = .returned v'∧w'.ownsRow w.heap.size 61 7 v' 0 []∧Below w.heap.size w w'):=clone58 w A 0 c [] (fun _=>rfl) rfl (fun j u hj=>by simp at hj) (by simp) (by omega)
   clear h1 h2 hn hO
   go_enter Tryz.func42,Tryz.ntmps42
   go_wp2_with (go_at_call 62;refine HC.out.mono ?_;rintro e w1 ⟨v1,rfl,hO,hB⟩;obtain ⟨q1,q3,hv⟩:=own_sl2 hO;subst hv;have HO:=Hid.mk' (And.intro hO hB);clear hO hB)
   go_loopw [4,5,6,7,13,49] (fun _ _ _ _ v12 _ wr=>v12 = .int .i64 0∧wr=w1) (fun _ _ _ _ _ _ _=>0)
   case atStart=>exact ⟨rfl,rfl⟩
   case round=>
    obtain ⟨rfl,rfl⟩:=hrel
    have hbb:wr.heap[w0.heap.size+1]? = some (.cells #[.slice none 0 0] 24 (0,0)):=(HO.out.2.block _ HRB.out.1).trans HRB.out.2
    have c0:wr.cell? ⟨w0.heap.size+1,0,none⟩=some (.slice none 0 0):=by rw [cell_of hbb];rfl
    have f0:wr.frozen? ⟨w0.heap.size+1,0,none⟩=false:=free_of hbb
    have HBB:Hid ((wr.setCell ⟨w0.heap.size+1,0,none⟩ (.slice q1 0 q3)).heap[w0.heap.size+1]? = some (.cells #[.slice q1 0 q3] 24 (0,0))):=set_heap hbb
    clear hbb
    go_wp2
    refine ret_pass rfl HBB.out ?_
    refine ⟨.slice q1 0 q3,rfl,⟨_,_,_,rfl⟩,fun W _=>⟨q1,q3,rfl,Nat.zero_le _,.inl rfl⟩,(HB0.out.trans (HO.out.2.mono HB0.out.size)).setCell (Nat.le_succ _) _⟩
 · obtain ⟨rg,ro,rfl,hR⟩:=h2.resolve_left h0
   refine (ownPass_some rg ro c rs w0 hR hn h0 hO).mono ?_
   rintro e w' ⟨v',rfl,h3,h4⟩
   obtain ⟨a,c',e,_⟩:=h3.now
   exact ⟨v',rfl,⟨a,_,c',e⟩,h3,h4⟩
theorem nth_lt:∀ (l:List (Int × Int)) (n:Int),(∀ x∈l,Whole x)→0≤n→n<tot l→∃ v,nthL l n=some v∧hasU l v
 | [],n,_,h0,h1=>by simp [tot] at h1;omega
 | x::r,n,hw,h0,h1=>by
  rw [tot_cons] at h1
  unfold nthL
  by_cases h:n<x.2 - x.1+1
  · rw [if_pos h]
    exact ⟨_,rfl,(hasU_cons _ _ _).2 (.inl ⟨by omega,by omega⟩)⟩
  · rw [if_neg h]
    obtain ⟨v,h2,h3⟩:=nth_lt r (n - (x.2 - x.1+1)) (fun y hy=>hw y (List.mem_cons_of_mem _ hy)) (by omega) (by omega)
    exact ⟨v,h2,(hasU_cons _ _ _).2 (.inr h3)⟩
theorem place_lt {l:List (Int × Int)} (h:Good l) {u:Int} (hu:hasU l u):placeU l u<tot l:=by
 have h1:=(nth_place h hu).1
 by_cases e:tot l≤placeU l u
 · rw [nth_over l _ h.1 e] at h1
   cases h1
 · omega
structure Paired (f t:List (Int × Int)):Prop where
 vf:validB f=true
 vt:validB t=true
 p:0<lenU f
 e:lenU f=lenU t
theorem part_some {f t:List (Int × Int)} (h:Paired f t) {u:Int} (hu:hasU f u):nthL t (placeU f u)=some (partU f t u)∧hasU t (partU f t u):=by
 have hf:=(validB_iff f).1 h.vf
 have ht:=(validB_iff t).1 h.vt
 have hp:=(nth_place hf.2 hu).2
 have h1:=place_lt hf.2 hu
 have e:=h.e
 unfold lenU at e
 rw [if_pos h.vf,if_pos h.vt] at e
 obtain ⟨v,h2,h3⟩:=nth_lt t (placeU f u) ht.2.1 hp (by omega)
 have hh:hasB f u=true:=by simp [hasB,h.vf,hu]
 have:partU f t u=v:=by
  unfold partU
  rw [if_pos hh]
  unfold nthU
  rw [if_neg (by simp [h.vt];omega),h2]
  rfl
 rw [this]
 exact ⟨h2,h3⟩
theorem wd_unit {u:Int} (h:isU u):wd u≠0:=by
 unfold isU at h
 by_cases h1:(0≤u∧u≤127)∨(1114240≤u∧u≤1114367)
 · rw [wd_1 h1];decide
 · by_cases h2:128≤u∧u≤2047
   · rw [wd_2 h2];decide
   · by_cases h3:2048≤u∧u≤65535
     · rw [wd_3 (by omega)];decide
     · rw [wd_4 (by omega)];decide
theorem hasB_unit {l:List (Int × Int)} {u:Int} (h:hasB l u=true):wd u≠0:=by
 simp only [hasB,Bool.and_eq_true,decide_eq_true_eq] at h
 exact wd_unit (good_units ((validB_iff l).1 h.1).2 h.2)
theorem st_at {ls:List (List (Int × Int))} {us:List Int} (h:stB ls us=true) {j:Nat} (h1:j<ls.length) (h2:j<us.length):hasB ls[j] us[j]=true:=by
 simp only [stB,Bool.and_eq_true,decide_eq_true_eq] at h
 have:=List.all_eq_true.1 h.2 (ls[j],us[j]) (by
  rw [List.mem_iff_getElem]
  exact ⟨j,by rw [List.length_zip];omega,List.getElem_zip⟩)
 exact this
structure Wr (key:List (List (Int × Int))) (us:List Int) (p:Pc) (u:Int):Prop where
 w:wd u≠0
 k:p.k=1∨p.k=2∨p.k=3
 k1:p.k=1→u=p.u
 k2:p.k=2→∃ (j:Nat) (hj:j<us.length),p.y=j∧us[j]=u
 k3:p.k=3→hasB p.tl u=true
theorem wr_any {r:Rl} {us:List Int} (h:layB r us=true) {p:Pc} (hp:p∈r.res):Wr r.key us p (wrt r.key us p):=by
 simp only [layB,Bool.and_eq_true,decide_eq_true_eq] at h
 have hok:=chk_ok h.1
 have hl:=st_len h.2
 rcases pc_ok (hok.pc p hp) with ⟨h1,h2,_,_⟩ | ⟨h1,_,_,h4,h5⟩ | ⟨h1,_,h3,h4,h5⟩
 · have e:wrt r.key us p=p.u:=by unfold wrt;rw [if_neg (by omega),if_neg (by omega)]
   rw [e]
   exact ⟨h2,.inl h1,fun _=>rfl,fun k=>by omega,fun k=>by omega⟩
 · obtain ⟨j,hj⟩:∃ j:Nat,p.y=(j:Int):=⟨p.y.toNat,by omega⟩
   have hjk:j<r.key.length:=by omega
   have hju:j<us.length:=by omega
   have e:wrt r.key us p=us[j]:=by
    unfold wrt
    rw [if_neg (by omega),if_pos h1,hj]
    simp [unitAt,hju]
   rw [e]
   exact ⟨hasB_unit (st_at h.2 hjk hju),.inr (.inl h1),fun k=>by omega,fun _=>⟨j,hju,hj,rfl⟩,fun k=>by omega⟩
 · obtain ⟨j,hj⟩:∃ j:Nat,p.y=(j:Int):=⟨p.y.toNat,by omega⟩
   have hjk:j<r.key.length:=by omega
   have hju:j<us.length:=by omega
   have e1:keyAt r.key (j:Int)=r.key[j]:=by simp [keyAt,hjk]
   have e2:unitAt us (j:Int)=us[j]:=by simp [unitAt,hju]
   have e:wrt r.key us p=partU r.key[j] p.tl us[j]:=by
    unfold wrt
    rw [if_pos h1,hj,e1,e2]
   rw [hj,e1] at h5
   simp only [matB,Bool.and_eq_true,decide_eq_true_eq] at h5
   have hS:=List.all_eq_true.1 hok.kS r.key[j] (List.getElem_mem hjk)
   have hS2:=hS
   simp only [okS,Bool.and_eq_true] at hS2
   have hP:Paired r.key[j] p.tl:=⟨hS2.1,h5.1,lenU_ok hS,h5.2⟩
   have hh:=st_at h.2 hjk hju
   have hh2:=hh
   simp only [hasB,Bool.and_eq_true,decide_eq_true_eq] at hh2
   have hq:=(part_some hP hh2.2).2
   have hb:hasB p.tl (partU r.key[j] p.tl us[j])=true:=by simp [hasB,h5.1,hq]
   rw [e]
   exact ⟨hasB_unit hb,.inr (.inr h1),fun k=>by omega,fun k=>by omega,fun _=>hb⟩
end Go.Proofs
