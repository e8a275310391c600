/-
  Several texts in one (Kc Kd Ke Kf Hc Hd He Hf Oa Sa Sc Sb Sd).
-/
import Derived.RangeFuncNested
import Derived.RangeFuncBound
import Derived.RangeFuncCalls
import Derived.RangeFuncLeaves
import Derived.Shelf.Abstract
import Derived.Shelf.RegionOpen
import Derived.WalkKit
import Derived.WalkSpells
import Derived.WalkLawsBesides
import Derived.OwnWalkIn
import Derived.TacticsInMore
import Derived.LoopNIn
import Derived.LoopIn
import Derived.BigQuiet
import Derived.RegionIn
import Derived.Deep.QuietTactic
import Derived.Deep.RegionWith
import Derived.Lib.OthersKept
import Derived.Maps.AppendAt
import Derived.Lib.SmallJoins
import Derived.Shelf.SlSortCmp.QuietGrown
import Derived.ArgAppend
import Derived.Below
import Derived.Deep.LoopGhost
import Derived.Laws.CopyOwn
import Derived.Laws.MakeOwn
import Derived.Lib.AppendStr
import Derived.Lib.ConvBytes
import Derived.Lib.IndexBytes
import Derived.Lib.ParseIntB
import Derived.RangeFuncBox
import Derived.WalkMore
import Derived.Shelf.Small.Utf8
import Derived.Test.YtcfcjljapamcoabGreatDoorMper
import Derived.Test.YtcfcjljapamcoabGreatDoorMgbr
import Derived.Deep.AppendLies
import Derived.Deep.RegionLaw
import Derived.Deep.DeepCutAuto
import Derived.Deep.CutBlock
import Derived.Laws.OwnMore
import Derived.Laws.ResultCell
import Derived.Test.YtcfcjljapamcoabGreatDoorMgar
namespace Go.Proofs
open Go.RowKit Go.Shelf
set_option maxRecDepth 100000
attribute [local go_sem] Oper.semAt_some
attribute [local go_sem ↓] Go.wp_at_zero Go.wp_at_succ
theorem units_len_N (s:ByteArray):∀ k p,(unitsN s k p).length≤k
 | 0,_=>by simp [unitsN]
 | k+1,p=>by
  by_cases hp:p<s.size
  · rw [unitsN_step s k p hp,List.length_cons];have:=units_len_N s k (p+uw s p);omega
  · rw [unitsN_end s _ p hp];simp
def intsU (l:List (Nat × Nat)):List Int:=l.map fun x=>(x.2:Int)
theorem intsU_length (l:List (Nat × Nat)):(intsU l).length=l.length:=by simp [intsU]
def acc (s:ByteArray) (p b:Nat):Nat→Nat
 | 0=>b
 | k+1=>acc s p b k*64+(s.get! (p+(k+1))).toNat % 64
theorem bstr_ne {a b:ByteArray} (h:a≠b):(a.toList == b.toList)=false:=by
 rw [ByteArray.toList_eq,ByteArray.toList_eq]
 by_cases e:a.data.toList=b.data.toList
 · exact absurd (Go.WideShapes.bytes_inj e) h
 · simpa using e
theorem units_len (s:ByteArray):(units s).length≤s.size:=units_len_N s _ _
theorem ir_take {w:World} {g o N c n:Nat} {l:List Int} (h:IR w (.slice (some ⟨g,o,none⟩) N c) l) (hn:n≤N):IR w (.slice (some ⟨g,o,none⟩) n c) (l.take n):=by
 obtain ⟨A,c',e,hc,hr⟩:=h
 injection e with e1 e2 e3
 subst e3
 have ht:(l.take n).length=n:=by rw [List.length_take];omega
 refine ⟨_,c,by rw [ht],by omega,?_⟩
 rcases hr with rfl | ⟨g',o',h1,hr⟩
 · exact .inl (by simp)
 · rw [←e1] at h1
   injection h1 with h1
   injection h1 with h1 h2
   subst h1 h2
   exact .inr ⟨g,o,rfl,fun j hj=>by rw [List.getElem_take];exact hr j (by omega)⟩
theorem new_cell (W:World) (b:Nat) (x:Value) (t:TypeId) (h:W.heap.size=b):(W.alloc (.cells #[x] t)).cell? ⟨b,0,none⟩=some x:=by
 subst h
 simp
def wK (rs:List Rl) (st:St) (u:Int):Int:=wgtK rs st.ws u rs.length
theorem Fin.unit_leK {rs:List Rl} {st:St} (h:Fin rs st) {j:Nat} (hj:j<st.bk.length) {u:Int} (hu:hasU (usAt st.bk j) u):wK rs st u≤wtAt st.bk j:=by
 have hpos:1≤wtAt st.bk j:=by
  unfold wtAt
  rw [List.getElem?_eq_getElem hj]
  exact (h.run.ok.pb _ (List.getElem_mem hj)).2.1
 unfold wK
 rcases wgtK_is (rs:=rs) (ws:=st.ws) (u:=u) rs.length with e | ⟨i,hi,h1,e⟩
 · omega
 · rw [e]
   have h2:hasU (fstS rs i) u:=by
    unfold hasB at h1
    simp only [Bool.and_eq_true,decide_eq_true_eq] at h1
    exact h1.2
   exact h.run.sn i j (by rw [csI_len];exact hi) hj (touch_of _ _ u (key_good h.ok hi) (h.us_good hj) h2 hu)
theorem Fin.ws_in {rs:List Rl} {st:St} (h:Fin rs st) {i:Nat} (hi:i<rs.length):1≤at0 st.ws i∧at0 st.ws i≤64:=h.run.ok.wb i (by rw [csI_len];exact hi)
theorem Fin.wK_in {rs:List Rl} {st:St} (h:Fin rs st) (u:Int):1≤wK rs st u∧wK rs st u≤64:=by
 refine ⟨wgtK_one _,?_⟩
 unfold wK
 rcases wgtK_is (rs:=rs) (ws:=st.ws) (u:=u) rs.length with e | ⟨i,hi,_,e⟩
 · omega
 · rw [e];exact (h.ws_in hi).2
theorem Fin.wK_ge {rs:List Rl} {st:St} {i:Nat} (hi:i<rs.length) {u:Int} (hu:hasB (fstS rs i) u=true):at0 st.ws i≤wK rs st u:=wgtK_ge hi hu
theorem Fin.gen {rs:List Rl} {st:St} (h:Fin rs st) (g:List (Int × Int)→Int) (hg:∀ j,j<st.bk.length→g (usAt st.bk j)≤wtAt st.bk j) {i:Nat} (hi:i<rs.length) :
 2 - (rs[i].key.length:Int)+copN (backP rs[i])+gs g (pbs i (backP rs[i])) i≤at0 st.ws i:=by
 have h2:gs g (pbs i (backP rs[i])) i=gs g st.bk i:=by
  rw [gs_same h.run.rk h.run.ok.uss,gs_bkI,if_pos hi,List.getElem?_eq_getElem hi]
  rfl
 have h3:gs g st.bk i≤wsum st.bk i:=gs_le (fun b hb=>by
  obtain ⟨j,hj,rfl⟩:=List.getElem_of_mem hb
  have:=hg j hj
  rw [usAt_at hj] at this
  unfold wtAt at this
  rw [List.getElem?_eq_getElem hj] at this
  exact this) i
 have h4:=h.run.ok.asum i (by rw [csI_len];exact hi)
 rw [csI_val hi] at h4
 have h5:=h.en i hi
 omega
theorem bAt_set {l:List Int} {i j:Nat} {x:Int} (h:i<l.length):bAt (l.set i x) j=if j=i then x else bAt l j:=at0_set h
theorem blk_lt {w:World} {g:Nat} {o:Obj} (h:w.heap[g]? = some o):g<w.heap.size:=(Array.getElem?_eq_some_iff.1 h).1
theorem ints_set (l:List Int) (k:Nat) (x:Int):ints (l.set k x)=(ints l).set k (.int .i64 x):=by simp [ints,List.map_set]
structure Fr (w w':World) (B:Nat→Prop):Prop where
 os:w'.os=w.os
 tape:w'.tape=w.tape
 output:w'.output=w.output
 size:w.heap.size≤w'.heap.size
 block:∀ k,k<w.heap.size→¬ B k→w'.heap[k]? = w.heap[k]?
theorem Fr.refl (w:World) (B:Nat→Prop):Fr w w B:=⟨rfl,rfl,rfl,Nat.le_refl _,fun _ _ _=>rfl⟩
theorem Fr.mono {w w':World} {B C:Nat→Prop} (h:Fr w w' B) (hc:∀ k,k<w.heap.size→B k→C k):Fr w w' C:=⟨h.os,h.tape,h.output,h.size,fun k hk hn=>h.block k hk fun hb=>hn (hc k hk hb)⟩
theorem Fr.trans {a b c:World} {B C:Nat→Prop} (h:Fr a b B) (k:Fr b c C) (hc:∀ i,i<a.heap.size→C i→B i):Fr a c B:=
 ⟨k.os.trans h.os,k.tape.trans h.tape,k.output.trans h.output,Nat.le_trans h.size k.size,fun i hi hn=>(k.block i (by have:=h.size;omega) fun hi2=>hn (hc i hi hi2)).trans (h.block i hi hn)⟩
theorem Fr.below {w w':World} {B:Nat→Prop} {base:Nat} (h:Fr w w' B) (hB:∀ k,B k→base≤k) (hb:base≤w.heap.size):Below base w w':=⟨h.os,h.tape,h.output,h.size,fun k hk=>h.block k (by omega) fun hk2=>by have:=hB k hk2;omega⟩
theorem fr_by {w w':World} {row:Option Nat} (h:w.grownBy w' row):Fr w w' fun k=>row=some k:=⟨h.os,h.tape,h.output,h.size,fun k hk hn=>h.block k hk fun e=>hn e.symm⟩
theorem fr_below {w w':World} {n:Nat} (h:Below n w w') (hn:w.heap.size≤n) (B:Nat→Prop):Fr w w' B:=⟨h.os,h.tape,h.output,h.size,fun k hk _=>h.block k (by omega)⟩
theorem fr_grown {w w':World} (h:Grown w w') (B:Nat→Prop):Fr w w' B:=fr_below h.below (Nat.le_refl _) B
theorem fr_set (w:World) (b j:Nat) (u:Value):Fr w (w.setCell ⟨b,j,none⟩ u) fun k=>k=b:=⟨rfl,rfl,rfl,by simp [World.setCell],fun k _ hn=>Below.heap_setCell w ⟨b,j,none⟩ u k hn⟩
theorem own_fr {w w':World} {base:Nat} {e:TypeId} {size:Nat} {v:Value} {n:Nat} {xs:List Value} {B:Nat→Prop} (h:w.ownsRow base e size v n xs) (hf:Fr w w' B) (hB:∀ b,v.ownBlock=some b→¬ B b):w'.ownsRow base e size v n xs:=by
 refine ⟨h.1,?_⟩
 rcases h.2 with hn | ⟨g,cap,cur,rfl,hb,hgg,rest⟩
 · exact .inl hn
 · exact .inr ⟨g,cap,cur,rfl,hb,(hf.block g (blk_lt hgg) (hB g rfl)).trans hgg,rest⟩
theorem own_at {w:World} {base:Nat} {e:TypeId} {size:Nat} {v:Value} {n:Nat} {xs:List Value} (h:w.ownsRow base e size v n xs) {b:Nat} (hb:v.ownBlock=some b):∃ cur,w.heap[b]? = some (.cells cur e (0,0)):=by
 rcases h.2 with ⟨rfl,_⟩ | ⟨g,cap,cur,rfl,_,hg,_⟩
 · cases hb
 · injection hb with hb
   simp only at hb
   subst hb
   exact ⟨cur,hg⟩
abbrev It:=Value × List (Int × Int)
def cut:Value→Value
 | .slice a n c => .slice a (n - 1) c
 | v=>v
structure LRu where
 bg:Bool
 en:Bool
 cu:Int
 a:Value × List It
 k:Value × List It
 p:Value × List It
 q:Value × List (Pc × Value)
def LRu.rl (r:LRu):Rl:=⟨r.bg,r.en,r.cu,r.a.2.map Prod.snd,r.k.2.map Prod.snd,r.p.2.map Prod.snd,r.q.2.map Prod.fst⟩
def LRu.cells (r:LRu):List Value:=[.bool r.bg,cut r.a.1,cut r.k.1,cut r.p.1,.bool r.en,cut r.q.1,.int .i64 r.cu]
section
variable {w:World} {base xb:Nat} {pv rv sv gv cv:Value} {G:List It} {S:List (Value × List It)} {C:List (Value × List (Pc × Value))} {R:List LRu} {re:List Value} {n:Nat}
end
structure Sq (w0 w:World) (blk cap n:Nat) (d:List Int):Prop where
 l:d.length=n
 o:w.ownsRow 0 3 1 (.slice (some ⟨blk,0,none⟩) n cap) n (ints d)
 f:Fr w0 w (fun b=>b=blk)
 r:∀ i,i<n→0≤bAt d i∧bAt d i<(n:Int)
theorem Sq.grown {w0 w w':World} {blk cap n:Nat} {d:List Int} (h:Sq w0 w blk cap n d) (k:Grown w w'):Sq w0 w' blk cap n d:=
 ⟨h.l,own_fr h.o (fr_grown k fun _=>False) fun _ _=>id,h.f.trans (fr_grown k fun _=>False) fun _ _ e=>e.elim,h.r⟩
theorem Sq.cell {w0 w:World} {blk cap n:Nat} {d:List Int} (h:Sq w0 w blk cap n d) {j:Nat} (hj:j<n):w.cell? ⟨blk,j,none⟩=some (.int .i64 (bAt d j)):=by
 rw [World.ownsRow.cellAt h.o j (by omega)]
 have hl:=h.l
 simp [ints,bAt,hl,hj]
theorem Sq.frozen {w0 w:World} {blk cap n:Nat} {d:List Int} (h:Sq w0 w blk cap n d) (j:Nat):w.frozen? ⟨blk,j,none⟩=false:=World.ownsRow.frozenAt h.o j
def swp (d:List Int) (i j:Nat):List Int:=(d.set i (bAt d j)).set j (bAt d i)
theorem swp_len (d:List Int) (i j:Nat):(swp d i j).length=d.length:=by simp [swp]
theorem swp_at {d:List Int} {i j:Nat} (hi:i<d.length) (hj:j<d.length) (k:Nat):bAt (swp d i j) k=if k=j then bAt d i else if k=i then bAt d j else bAt d k:=by
 unfold swp
 rw [bAt_set (by simpa using hj),bAt_set hi]
theorem Sq.swap {w0 w:World} {blk cap n:Nat} {d:List Int} (h:Sq w0 w blk cap n d) {i j:Nat} (hi:i<n) (hj:j<n):Sq w0 ((w.setCell ⟨blk,i,none⟩ (.int .i64 (bAt d j))).setCell ⟨blk,j,none⟩ (.int .i64 (bAt d i))) blk cap n (swp d i j):=by
 have o1:=(World.ownsRow.stored h.o i (.int .i64 (bAt d j))).1
 have o2:=(World.ownsRow.stored o1 j (.int .i64 (bAt d i))).1
 refine ⟨by rw [swp_len];exact h.l,by unfold swp;rw [ints_set,ints_set];exact o2,(h.f.trans (fr_set w blk i _) fun _ _ e=>e).trans (fr_set _ blk j _) fun _ _ e=>e,fun k hk => ?_⟩
 have hl:=h.l
 rw [swp_at (by omega) (by omega)]
 split
 · exact h.r i hi
 · split
   · exact h.r j hj
   · exact h.r k hk
def InS (d:List Int) (a b:Nat) (x:Int):Prop:=∃ i,a≤i∧i<b∧bAt d i=x
structure Mix (d d':List Int) (a b:Nat):Prop where
 l:d'.length=d.length
 o:∀ k,¬ (a≤k∧k<b)→bAt d' k=bAt d k
 s:∀ x,InS d' a b x↔InS d a b x
theorem Mix.refl (d:List Int) (a b:Nat):Mix d d a b:=⟨rfl,fun _ _=>rfl,fun _=>Iff.rfl⟩
theorem Mix.trans {d e f:List Int} {a b:Nat} (h:Mix d e a b) (k:Mix e f a b):Mix d f a b:=⟨k.l.trans h.l,fun i hi=>(k.o i hi).trans (h.o i hi),fun x=>(k.s x).trans (h.s x)⟩
theorem Mix.wide {d e:List Int} {a b a' b':Nat} (h:Mix d e a b) (ha:a'≤a) (hb:b≤b'):Mix d e a' b':=by
 refine ⟨h.l,fun i hi=>h.o i (by omega),fun x=>⟨?_,?_⟩⟩
 · rintro ⟨i,h1,h2,h3⟩
   by_cases hi:a≤i∧i<b
   · obtain ⟨j,k1,k2,k3⟩:=(h.s x).1 ⟨i,hi.1,hi.2,h3⟩
     exact ⟨j,by omega,by omega,k3⟩
   · exact ⟨i,h1,h2,by rw [←h.o i hi];exact h3⟩
 · rintro ⟨i,h1,h2,h3⟩
   by_cases hi:a≤i∧i<b
   · obtain ⟨j,k1,k2,k3⟩:=(h.s x).2 ⟨i,hi.1,hi.2,h3⟩
     exact ⟨j,by omega,by omega,k3⟩
   · exact ⟨i,h1,h2,by rw [h.o i hi];exact h3⟩
structure Ex (d d':List Int) (a b i:Nat):Prop where
 l:d'.length=d.length
 x:∀ k,a≤k→k<a+i→bAt d' k=bAt d (k+(b - a))
 y:∀ k,b≤k→k<b+i→bAt d' k=bAt d (k - (b - a))
 z:∀ k,¬ (a≤k∧k<a+i)→¬ (b≤k∧k<b+i)→bAt d' k=bAt d k
theorem Ex.zero (d:List Int) (a b:Nat):Ex d d a b 0:=⟨rfl,fun k h1 h2=>by omega,fun k h1 h2=>by omega,fun _ _ _=>rfl⟩
theorem Ex.succ {d d':List Int} {a b i n:Nat} (h:Ex d d' a b i) (hi:i<n) (hab:a+n≤b) (hb:b+n≤d.length):Ex d (swp d' (a+i) (b+i)) a b (i+1):=by
 have hl:=h.l
 have at':=swp_at (d:=d') (i:=a+i) (j:=b+i) (by omega) (by omega)
 have ha:=h.z (a+i) (by omega) (by omega)
 have hbb:=h.z (b+i) (by omega) (by omega)
 refine ⟨by rw [swp_len];exact hl,fun k h1 h2 => ?_,fun k h1 h2 => ?_,fun k h1 h2 => ?_⟩
 · rw [at',if_neg (by omega)]
   by_cases e:k=a+i
   · subst e
     rw [if_pos rfl,hbb]
     congr 1
     omega
   · rw [if_neg e];exact h.x k h1 (by omega)
 · rw [at']
   by_cases e:k=b+i
   · subst e
     rw [if_pos rfl,ha]
     congr 1
     omega
   · rw [if_neg e,if_neg (by omega)];exact h.y k h1 (by omega)
 · rw [at',if_neg (by omega),if_neg (by omega)]
   exact h.z k (by omega) (by omega)
structure Rot (d d':List Int) (a m b:Nat):Prop where
 l:d'.length=d.length
 x:∀ k,a≤k→k<a+(b - m)→bAt d' k=bAt d (k+(m - a))
 y:∀ k,a+(b - m)≤k→k<b→bAt d' k=bAt d (k - (b - m))
 z:∀ k,¬ (a≤k∧k<b)→bAt d' k=bAt d k
structure RotI (d e:List Int) (a m b i j:Nat):Prop where
 l:e.length=d.length
 i1:1≤i
 i2:i≤m - a
 j1:1≤j
 j2:j≤b - m
 g:∀ f,Rot e f (m - i) m (m+j)→Rot d f a m b
theorem rotI_start {d:List Int} {a m b:Nat} (h1:a<m) (h2:m<b):RotI d d a m b (m - a) (b - m):=by
 refine ⟨rfl,by omega,Nat.le_refl _,by omega,Nat.le_refl _,fun f hf => ?_⟩
 have e1:m - (m - a)=a:=by omega
 have e2:m+(b - m)=b:=by omega
 rw [e1,e2] at hf
 exact hf
theorem RotI.left {d e e':List Int} {a m b i j:Nat} (h:RotI d e a m b i j) (ha:a≤m) (hij:j<i) (hx:Ex e e' (m - i) m j):RotI d e' a m b (i - j) j:=by
 have:=h.i1;have:=h.i2;have:=h.j1;have:=h.j2
 refine ⟨hx.l.trans h.l,by omega,by omega,h.j1,h.j2,fun f hf=>h.g f ⟨hf.l.trans hx.l,fun k h1 h2 => ?_,fun k h1 h2 => ?_,fun k h1 => ?_⟩⟩
 · rw [hf.z k (by omega),hx.x k h1 (by omega)]
 · by_cases hk:k<m - (i - j)+(m+j - m)
   · rw [hf.x k (by omega) hk,hx.y _ (by omega) (by omega)]
     congr 1
     omega
   · rw [hf.y k (by omega) h2,hx.z _ (by omega) (by omega)]
 · rw [hf.z k (by omega),hx.z k (by omega) (by omega)]
theorem RotI.right {d e e':List Int} {a m b i j:Nat} (h:RotI d e a m b i j) (ha:a≤m) (hij:i<j) (hx:Ex e e' (m - i) (m+j - i) i):RotI d e' a m b i (j - i):=by
 have:=h.i1;have:=h.i2;have:=h.j1;have:=h.j2
 refine ⟨hx.l.trans h.l,h.i1,h.i2,by omega,by omega,fun f hf=>h.g f ⟨hf.l.trans hx.l,fun k h1 h2 => ?_,fun k h1 h2 => ?_,fun k h1 => ?_⟩⟩
 · by_cases hk:k<m - i+(m+(j - i) - m)
   · rw [hf.x k h1 hk,hx.z _ (by omega) (by omega)]
   · by_cases hk2:k<m+(j - i)
     · rw [hf.y k (by omega) hk2,hx.x _ (by omega) (by omega)]
       congr 1
       omega
     · omega
 · by_cases hk:k<m+(j - i)
   · omega
   · rw [hf.z k (by omega),hx.y k (by omega) (by omega)]
     congr 1
     omega
 · rw [hf.z k (by omega),hx.z k (by omega) (by omega)]
theorem RotI.done {d e f:List Int} {a m b i:Nat} (h:RotI d e a m b i i) (hx:Ex e f (m - i) m i):Rot d f a m b:=by
 have:=h.i1;have:=h.i2
 refine h.g f ⟨hx.l,fun k h1 h2 => ?_,fun k h1 h2 => ?_,fun k h1=>hx.z k (by omega) (by omega)⟩
 · rw [hx.x k h1 (by omega)]
 · rw [hx.y k (by omega) (by omega)]
   congr 1
   omega
def lt (key:Int→Int) (x y:Int):Prop:=key y<key x∨(key x=key y∧x<y)
theorem lt.trans {key:Int→Int} {x y z:Int} (h:lt key x y) (k:lt key y z):lt key x z:=by unfold lt at *;omega
theorem lt_clt {key:Int→Int} {x y:Int} (h:key y<key x):lt key x y := .inl h
theorem lt_not {key:Int→Int} {x y:Int} (hx:x<y) (h:¬ key x<key y):lt key x y:=by unfold lt;omega
def SS (key:Int→Int) (d:List Int) (a b:Nat):Prop:=∀ i j,a≤i→i<j→j<b→lt key (bAt d i) (bAt d j)
theorem SS.le {key:Int→Int} {d:List Int} {a b:Nat} (h:SS key d a b) {i j:Nat} (h1:a≤i) (h2:i≤j) (h3:j<b) {z:Int} (hz:lt key (bAt d j) z):lt key (bAt d i) z:=by
 by_cases e:i=j
 · subst e;exact hz
 · exact (h i j h1 (by omega) h3).trans hz
theorem SS.ge {key:Int→Int} {d:List Int} {a b:Nat} (h:SS key d a b) {i j:Nat} (h1:a≤i) (h2:i≤j) (h3:j<b) {z:Int} (hz:lt key z (bAt d i)):lt key z (bAt d j):=by
 by_cases e:i=j
 · subst e;exact hz
 · exact hz.trans (h i j h1 (by omega) h3)
theorem SS.same {key:Int→Int} {d e:List Int} {a b:Nat} (h:SS key d a b) (he:∀ k,a≤k→k<b→bAt e k=bAt d k):SS key e a b:=fun i j h1 h2 h3=>by rw [he i h1 (by omega),he j (by omega) h3];exact h i j h1 h2 h3
def Hx (d:List Int) (a m b:Nat):Prop:=∀ i j,a≤i→i<m→m≤j→j<b→bAt d i<bAt d j
theorem Rot.mix {d e:List Int} {a m b:Nat} (h:Rot d e a m b) (h1:a≤m) (h2:m≤b):Mix d e a b:=by
 refine ⟨h.l,h.z,fun x=>⟨?_,?_⟩⟩
 · rintro ⟨i,k1,k2,k3⟩
   by_cases hi:i<a+(b - m)
   · exact ⟨i+(m - a),by omega,by omega,by rw [←h.x i k1 hi];exact k3⟩
   · exact ⟨i - (b - m),by omega,by omega,by rw [←h.y i (by omega) k2];exact k3⟩
 · rintro ⟨i,k1,k2,k3⟩
   by_cases hi:i<m
   · refine ⟨i+(b - m),by omega,by omega,?_⟩
     rw [h.y _ (by omega) (by omega),Nat.add_sub_cancel];exact k3
   · refine ⟨i - (m - a),by omega,by omega,?_⟩
     rw [h.x _ (by omega) (by omega),Nat.sub_add_cancel (by omega)];exact k3
theorem rot_none {d:List Int} {a m b:Nat} (h:a=m∨m=b) (h1:a≤m) (h2:m≤b):Rot d d a m b:=by
 refine ⟨rfl,fun k k1 k2 => ?_,fun k k1 k2 => ?_,fun _ _=>rfl⟩
 · rcases h with h | h
   · subst h;congr 1;omega
   · omega
 · rcases h with h | h
   · omega
   · subst h;congr 1;omega
theorem rot_left {key:Int→Int} {d d1:List Int} {a m b st en:Nat} (hs1:SS key d a m) (hs2:SS key d m b) (hx:Hx d a m b) (k1:a≤st) (k2:st≤m) (k3:m≤en) (k4:en≤b) (hr:Rot d d1 st m en) :
 SS key d1 a st∧SS key d1 st (st+(en - m))∧Hx d1 a st (st+(en - m))∧SS key d1 (st+(en - m)) en∧SS key d1 en b∧Hx d1 (st+(en - m)) en b:=by
 have e1:∀ k,k<st→bAt d1 k=bAt d k:=fun k hk=>hr.z k (by omega)
 have e2:∀ k,st≤k→k<st+(en - m)→bAt d1 k=bAt d (k+(m - st)):=hr.x
 have e3:∀ k,st+(en - m)≤k→k<en→bAt d1 k=bAt d (k - (en - m)):=hr.y
 have e4:∀ k,en≤k→bAt d1 k=bAt d k:=fun k hk=>hr.z k (by omega)
 refine ⟨fun i j h1 h2 h3 => ?_,fun i j h1 h2 h3 => ?_,fun i j h1 h2 h3 h4 => ?_,fun i j h1 h2 h3 => ?_,fun i j h1 h2 h3 => ?_,fun i j h1 h2 h3 h4 => ?_⟩
 · rw [e1 i (by omega),e1 j h3];exact hs1 i j h1 h2 (by omega)
 · rw [e2 i h1 (by omega),e2 j (by omega) h3];exact hs2 _ _ (by omega) (by omega) (by omega)
 · rw [e1 i h2,e2 j h3 h4];exact hx _ _ h1 (by omega) (by omega) (by omega)
 · rw [e3 i h1 (by omega),e3 j (by omega) h3];exact hs1 _ _ (by omega) (by omega) (by omega)
 · rw [e4 i h1,e4 j (by omega)];exact hs2 i j (by omega) h2 h3
 · rw [e3 i h1 h2,e4 j h3];exact hx _ _ (by omega) (by omega) (by omega) h4
theorem sym_done {key:Int→Int} {d d1 d2 d3:List Int} {a m b st en mid:Nat} (hs1:SS key d a m) (hs2:SS key d m b) (k1:a≤st) (k2:st≤m) (k3:m≤en) (k4:en≤b) (hmid:mid=st+(en - m))
 (c1:a<st→en<b→lt key (bAt d (st - 1)) (bAt d en)) (c2:st<m→m<en→lt key (bAt d (en - 1)) (bAt d st)) (hr:Rot d d1 st m en) (m2:Mix d1 d2 a mid) (s2:SS key d2 a mid) (m3:Mix d2 d3 mid b) (s3:SS key d3 mid b):Mix d d3 a b∧SS key d3 a b:=by
 subst hmid
 have hmid2:st+(en - m)≤b:=by omega
 refine ⟨((hr.mix k2 k3).wide k1 k4).trans ((m2.wide (Nat.le_refl _) hmid2).trans (m3.wide (by omega) (Nat.le_refl _))),fun i j h1 h2 h3 => ?_⟩
 by_cases hj:j<st+(en - m)
 · rw [m3.o i (by omega),m3.o j (by omega)];exact s2 i j h1 h2 hj
 · by_cases hi:st+(en - m)≤i
   · exact s3 i j hi h2 h3
   · obtain ⟨i',a1,a2,a3⟩:=(m2.s (bAt d3 i)).1 ⟨i,h1,by omega,(m3.o i (by omega)).symm⟩
     obtain ⟨j',b1,b2,b3⟩:=(m3.s (bAt d3 j)).1 ⟨j,by omega,h3,rfl⟩
     rw [m2.o j' (by omega)] at b3
     rw [←a3,←b3]
     by_cases p:i'<st
     · rw [hr.z i' (by omega)]
       by_cases q:j'<en
       · rw [hr.y j' b1 q];exact hs1 _ _ a1 (by omega) (by omega)
       · rw [hr.z j' (by omega)]
         exact hs1.le a1 (show i'≤st - 1 by omega) (by omega) (hs2.ge (by omega) (show en≤j' by omega) b2 (c1 (by omega) (by omega)))
     · rw [hr.x i' (by omega) a2]
       by_cases q:j'<en
       · rw [hr.y j' b1 q]
         exact hs2.le (by omega) (show i'+(m - st)≤en - 1 by omega) (by omega) (hs1.ge k1 (show st≤j' - (en - m) by omega) (by omega) (c2 (by omega) (by omega)))
       · rw [hr.z j' (by omega)];exact hs2 _ _ (by omega) (by omega) b2
structure MvR (d e:List Int) (a k:Nat):Prop where
 l:e.length=d.length
 x:∀ t,a≤t→t<k→bAt e t=bAt d (t+1)
 y:bAt e k=bAt d a
 z:∀ t,¬ (a≤t∧t≤k)→bAt e t=bAt d t
theorem MvR.zero (d:List Int) (a:Nat):MvR d d a a:=⟨rfl,fun t h1 h2=>by omega,rfl,fun _ _=>rfl⟩
theorem MvR.succ {d e:List Int} {a k:Nat} (h:MvR d e a k) (ha:a≤k) (hk:k+1<d.length):MvR d (swp e k (k+1)) a (k+1):=by
 have hl:=h.l
 have at':=swp_at (d:=e) (i:=k) (j:=k+1) (by omega) (by omega)
 refine ⟨by rw [swp_len];exact hl,fun t h1 h2 => ?_,by rw [at',if_pos rfl];exact h.y,fun t ht => ?_⟩
 · rw [at',if_neg (by omega)]
   by_cases e1:t=k
   · subst e1;rw [if_pos rfl];exact h.z _ (by omega)
   · rw [if_neg e1];exact h.x t h1 (by omega)
 · rw [at',if_neg (by omega),if_neg (by omega)];exact h.z t (by omega)
structure MvL (d e:List Int) (m k:Nat):Prop where
 l:e.length=d.length
 x:∀ t,k<t→t≤m→bAt e t=bAt d (t - 1)
 y:bAt e k=bAt d m
 z:∀ t,¬ (k≤t∧t≤m)→bAt e t=bAt d t
theorem MvL.zero (d:List Int) (m:Nat):MvL d d m m:=⟨rfl,fun t h1 h2=>by omega,rfl,fun _ _=>rfl⟩
theorem MvL.succ {d e:List Int} {m k:Nat} (h:MvL d e m (k+1)) (hk:k+1≤m) (hm:m<d.length):MvL d (swp e (k+1) k) m k:=by
 have hl:=h.l
 have at':=swp_at (d:=e) (i:=k+1) (j:=k) (by omega) (by omega)
 refine ⟨by rw [swp_len];exact hl,fun t h1 h2 => ?_,by rw [at',if_pos rfl];exact h.y,fun t ht => ?_⟩
 · rw [at',if_neg (by omega)]
   by_cases e1:t=k+1
   · subst e1;rw [if_pos rfl,Nat.add_sub_cancel];exact h.z _ (by omega)
   · rw [if_neg e1];exact h.x t (by omega) h2
 · rw [at',if_neg (by omega),if_neg (by omega)];exact h.z t (by omega)
theorem MvR.mix {d e:List Int} {a k:Nat} (h:MvR d e a k) (ha:a≤k):Mix d e a (k+1):=by
 refine ⟨h.l,fun t ht=>h.z t (by omega),fun x=>⟨?_,?_⟩⟩
 · rintro ⟨i,h1,h2,h3⟩
   by_cases hi:i<k
   · exact ⟨i+1,by omega,by omega,by rw [←h.x i h1 hi];exact h3⟩
   · have:i=k:=by omega
     subst this
     exact ⟨a,Nat.le_refl _,by omega,by rw [←h.y];exact h3⟩
 · rintro ⟨i,h1,h2,h3⟩
   by_cases hi:i=a
   · subst hi;exact ⟨k,ha,by omega,by rw [h.y];exact h3⟩
   · exact ⟨i - 1,by omega,by omega,by rw [h.x _ (by omega) (by omega),Nat.sub_add_cancel (by omega)];exact h3⟩
theorem MvL.mix {d e:List Int} {m k:Nat} (h:MvL d e m k) (hk:k≤m):Mix d e k (m+1):=by
 refine ⟨h.l,fun t ht=>h.z t (by omega),fun x=>⟨?_,?_⟩⟩
 · rintro ⟨i,h1,h2,h3⟩
   by_cases hi:i=k
   · subst hi;exact ⟨m,hk,by omega,by rw [←h.y];exact h3⟩
   · exact ⟨i - 1,by omega,by omega,by rw [←h.x i (by omega) (by omega)];exact h3⟩
 · rintro ⟨i,h1,h2,h3⟩
   by_cases hi:i=m
   · subst hi;exact ⟨k,Nat.le_refl _,by omega,by rw [h.y];exact h3⟩
   · refine ⟨i+1,by omega,by omega,?_⟩
     rw [h.x _ (by omega) (by omega),Nat.add_sub_cancel];exact h3
theorem MvR.done {key:Int→Int} {d e:List Int} {a i b:Nat} (h:MvR d e a (i - 1)) (h1:a+1≤i) (h2:i≤b) (hs:SS key d (a+1) b) (c1:i=a+1∨lt key (bAt d (i - 1)) (bAt d a)) (c2:i=b∨lt key (bAt d a) (bAt d i)):Mix d e a b∧SS key e a b:=by
 refine ⟨(h.mix (by omega)).wide (Nat.le_refl _) (by omega),fun s t k1 k2 k3 => ?_⟩
 by_cases ht:t<i - 1
 · rw [h.x s k1 (by omega),h.x t (by omega) ht];exact hs _ _ (by omega) (by omega) (by omega)
 · by_cases ht2:t=i - 1
   · subst ht2
     rw [h.x s k1 k2,h.y]
     exact hs.le (by omega) (show s+1≤i - 1 by omega) (by omega) (c1.resolve_left (by omega))
   · rw [h.z t (by omega)]
     by_cases hs1:s<i - 1
     · rw [h.x s k1 hs1];exact hs _ _ (by omega) (by omega) k3
     · by_cases hs2:s=i - 1
       · subst hs2
         rw [h.y]
         exact hs.ge (by omega) (show i≤t by omega) k3 (c2.resolve_left (by omega))
       · rw [h.z s (by omega)];exact hs _ _ (by omega) k2 k3
theorem MvL.done {key:Int→Int} {d e:List Int} {a i m:Nat} (h:MvL d e m i) (h1:a≤i) (h2:i≤m) (hs:SS key d a m) (c1:i=a∨lt key (bAt d (i - 1)) (bAt d m)) (c2:i=m∨lt key (bAt d m) (bAt d i)):Mix d e a (m+1)∧SS key e a (m+1):=by
 refine ⟨(h.mix h2).wide h1 (Nat.le_refl _),fun s t k1 k2 k3 => ?_⟩
 by_cases hs1:s<i
 · rw [h.z s (by omega)]
   by_cases ht:t<i
   · rw [h.z t (by omega)];exact hs _ _ k1 k2 (by omega)
   · by_cases ht2:t=i
     · subst ht2
       rw [h.y]
       exact hs.le k1 (show s≤t - 1 by omega) (by omega) (c1.resolve_left (by omega))
     · rw [h.x t (by omega) (by omega)];exact hs _ _ k1 (by omega) (by omega)
 · by_cases hs2:s=i
   · subst hs2
     rw [h.y,h.x t k2 (by omega)]
     exact hs.ge h1 (show s≤t - 1 by omega) (by omega) (c2.resolve_left (by omega))
   · rw [h.x s (by omega) (by omega),h.x t (by omega) (by omega)];exact hs _ _ (by omega) (by omega) (by omega)
set_option maxHeartbeats 4000000 in
theorem swapRange_any {w0 w:World} {blk cap n:Nat} {d:List Int} (h:Sq w0 w blk cap n d) (a b k:Nat) (cv:Value) (hab:a+k≤b) (hb:b+k≤n) (hn:n≤1000000) :
 Calls Tryz.prog 163 #[.slice (some ⟨blk,0,none⟩) n cap,.int .i64 a,.int .i64 b,.int .i64 k,cv] w fun e w'=>e = .returned (.tuple #[])∧∃ d',Sq w0 w' blk cap n d'∧Ex d d' a b k:=by
 have HS:Hid (Sq w0 w blk cap n d):=h
 have hnI:(n:Int)≤1000000:=by omega
 clear h
 go_enter Tryz.func163,Tryz.ntmps163
 go_wp2
 go_loopw [10] (fun vi wr=>∃ i:Nat,vi = .int .i64 i∧i≤k∧Hid (∃ e,Sq w0 wr blk cap n e∧Ex d e a b i)) (fun vi _=>k - (intOf vi).toNat)
 case atStart=>exact ⟨0,rfl,by omega,d,HS.out,Ex.zero d a b⟩
 case round=>
  obtain ⟨i,rfl,hi,HE⟩:=hrel
  have hi0:(0:Int)≤(i:Int):=by omega
  by_cases hlt:i<k
  · have hltI:(i:Int)<(k:Int):=by omega
    obtain ⟨e,hsq,hex⟩:=HE.out
    have hlen:e.length=n:=hsq.l
    have c1:=hsq.cell (j:=a+i) (by omega)
    have c2:=hsq.cell (j:=b+i) (by omega)
    have hf:=hsq.frozen
    have HQ:Hid (∀ V,Grown wr V→Sq w0 ((V.setCell ⟨blk,a+i,none⟩ (.int .i64 (bAt e (b+i)))).setCell ⟨blk,b+i,none⟩ (.int .i64 (bAt e (a+i)))) blk cap n (swp e (a+i) (b+i))):=fun V hg=>(hsq.grown hg).swap (by omega) (by omega)
    have HX:Hid (Ex d (swp e (a+i) (b+i)) a b (i+1)):=hex.succ hlt hab (by have:=hex.l;omega)
    generalize bAt e (a+i)=x at c1 HQ
    generalize bAt e (b+i)=y at c2 HQ
    have a0:(0:Int)≤(a:Int):=by omega
    have b0:(0:Int)≤(b:Int):=by omega
    have a1:(a:Int)+(i:Int)<(n:Int):=by omega
    have b1:(b:Int)+(i:Int)<(n:Int):=by omega
    have hne:a+i≠b+i:=by omega
    have t1:((a:Int)+(i:Int)).toNat=a+i:=by omega
    have t2:((b:Int)+(i:Int)).toNat=b+i:=by omega
    clear hsq hex HE
    go_wp2
    go_region
    all_goals (go_wp2;exact ⟨⟨i+1,by go_num,by omega,_,(HQ.out wr (Grown.refl _)).grown ((Grown.refl _).drew),HX.out⟩,by simp [intOf];omega⟩)
  · have hge:¬ (i:Int)<(k:Int):=by omega
    have hik:i=k:=by omega
    subst hik
    go_wp2
    go_end0
    exact ⟨rfl,HE.out⟩
set_option maxHeartbeats 4000000 in
theorem rotate_any {w0 w:World} {blk cap n:Nat} {d:List Int} (h:Sq w0 w blk cap n d) (a m b:Nat) (cv:Value) (ham:a<m) (hmb:m<b) (hb:b≤n) (hn:n≤1000000) :
 Calls Tryz.prog 153 #[.slice (some ⟨blk,0,none⟩) n cap,.int .i64 a,.int .i64 m,.int .i64 b,cv] w fun e w'=>e = .returned (.tuple #[])∧∃ d',Sq w0 w' blk cap n d'∧Rot d d' a m b:=by
 have HS:Hid (Sq w0 w blk cap n d):=h
 have hnI:(n:Int)≤1000000:=by omega
 have hdl:d.length=n:=h.l
 clear h
 go_enter Tryz.func153,Tryz.ntmps153
 go_wp2
 go_loopw [10,11] (fun v10 v11 wr=>∃ i j:Nat,v10 = .int .i64 i∧v11 = .int .i64 j∧Hid (∃ e,Sq w0 wr blk cap n e∧RotI d e a m b i j)) (fun v10 v11 _=>(intOf v10).toNat+(intOf v11).toNat)
 case atStart=>exact ⟨m - a,b - m,by rw [show (m:Int) - a=((m - a:Nat):Int) by omega],by rw [show (b:Int) - m=((b - m:Nat):Int) by omega],d,HS.out,rotI_start ham hmb⟩
 case round=>
  obtain ⟨i,j,rfl,rfl,HE⟩:=hrel
  obtain ⟨e,hsq,hR⟩:=HE.out
  have hi1:=hR.i1
  have hi2:=hR.i2
  have hj1:=hR.j1
  have hj2:=hR.j2
  have i0:(0:Int)≤(i:Int):=by omega
  have j0:(0:Int)≤(j:Int):=by omega
  have iI:(i:Int)≤(m:Int):=by omega
  have mI:(m:Int)≤1000000:=by omega
  have jI:(j:Int)≤1000000:=by omega
  have m0:(0:Int)≤(m:Int):=by omega
  by_cases hij:i=j
  · subst hij
    have HC:Hid (Calls Tryz.prog 163 #[.slice (some ⟨blk,0,none⟩) n cap,.int .i64 ((m:Int) - (i:Int)),.int .i64 m,.int .i64 i,cv] wr fun e' w'=>e' = .returned (.tuple #[])∧∃ d',Sq w0 w' blk cap n d'∧Ex e d' (m - i) m i):=by
     rw [show (m:Int) - (i:Int)=((m - i:Nat):Int) by omega]
     exact swapRange_any hsq (m - i) m i cv (by omega) (by omega) hn
    have HR:=Hid.mk' hR
    clear hsq hR HE
    go_wp2_with (go_at_call 163;refine HC.out.mono ?_;rintro e' w1 ⟨rfl,f,hs1,hx1⟩;have H1:Hid (Sq w0 w1 blk cap n f∧Rot d f a m b):=⟨hs1,HR.out.done hx1⟩;clear hs1 hx1)
    go_end0
    exact ⟨rfl,f,H1.out⟩
  · have hne:(i:Int)≠(j:Int):=by omega
    have hneb:((i:Int) != (j:Int))=true:=by simpa using hne
    by_cases hgt:j<i
    · have hgtI:(j:Int)<(i:Int):=by omega
      have HC:Hid (Calls Tryz.prog 163 #[.slice (some ⟨blk,0,none⟩) n cap,.int .i64 ((m:Int) - (i:Int)),.int .i64 m,.int .i64 j,cv] wr fun e' w'=>e' = .returned (.tuple #[])∧∃ d',Sq w0 w' blk cap n d'∧Ex e d' (m - i) m j):=by
       rw [show (m:Int) - (i:Int)=((m - i:Nat):Int) by omega]
       exact swapRange_any hsq (m - i) m j cv (by omega) (by omega) hn
      have HR:=Hid.mk' hR
      clear hsq hR HE
      go_wp2_with (go_at_call 163;refine HC.out.mono ?_;rintro e' w1 ⟨rfl,f,hs1,hx1⟩;have H1:Hid (Sq w0 w1 blk cap n f∧RotI d f a m b (i - j) j):=⟨hs1,HR.out.left (by omega) hgt hx1⟩;clear hs1 hx1)
      exact ⟨⟨i - j,j,by rw [show (i:Int) - j=((i - j:Nat):Int) by omega],rfl,f,H1.out⟩,by simp [intOf];omega⟩
    · have hgtI:¬ (j:Int)<(i:Int):=by omega
      have HC:Hid (Calls Tryz.prog 163 #[.slice (some ⟨blk,0,none⟩) n cap,.int .i64 ((m:Int) - (i:Int)),.int .i64 ((m:Int)+(j:Int) - (i:Int)),.int .i64 i,cv] wr fun e' w'=>e' = .returned (.tuple #[])∧∃ d',Sq w0 w' blk cap n d'∧Ex e d' (m - i) (m+j - i) i):=by
       rw [show (m:Int) - (i:Int)=((m - i:Nat):Int) by omega,show (m:Int)+(j:Int) - (i:Int)=((m+j - i:Nat):Int) by omega]
       exact swapRange_any hsq (m - i) (m+j - i) i cv (by omega) (by omega) hn
      have HR:=Hid.mk' hR
      clear hsq hR HE
      go_wp2_with (go_at_call 163;refine HC.out.mono ?_;rintro e' w1 ⟨rfl,f,hs1,hx1⟩;have H1:Hid (Sq w0 w1 blk cap n f∧RotI d f a m b i (j - i)):=⟨hs1,HR.out.right (by omega) (by omega) hx1⟩;clear hs1 hx1)
      exact ⟨⟨i,j - i,rfl,by rw [show (j:Int) - i=((j - i:Nat):Int) by omega],f,H1.out⟩,by simp [intOf];omega⟩
def CmpC (w0:World) (blk n:Nat) (key:Int→Int) (bx:Nat):Prop:=∀ W,Fr w0 W (fun b=>b=blk)→∀ x y:Int,0≤x→x<n→0≤y→y<n→Calls Tryz.prog 93 #[.int .i64 x,.int .i64 y,.pointer (some ⟨bx,0,none⟩)] W fun e w'=>e = .returned (.int .i64 (key y - key x))∧Grown W w'
set_option maxHeartbeats 8000000 in
theorem insertion_any {w0 w:World} {blk cap n:Nat} {d:List Int} {key:Int→Int} {bx:Nat} (h:Sq w0 w blk cap n d) (hc:CmpC w0 blk n key bx) (hkey:∀ x,0≤key x∧key x≤1000000) (a b:Nat) (hab:a≤b) (hb:b≤n) (hn:n≤1000000) (hx:∀ i j,a≤i→i<j→j<b→bAt d i<bAt d j) :
 Calls Tryz.prog 138 #[.slice (some ⟨blk,0,none⟩) n cap,.int .i64 a,.int .i64 b,.func (.func 93) #[] #[.pointer (some ⟨bx,0,none⟩)]] w fun e w'=>e = .returned (.tuple #[])∧∃ d',Sq w0 w' blk cap n d'∧Mix d d' a b∧SS key d' a b:=by
 have HS:Hid (Sq w0 w blk cap n d):=h
 have HC:=Hid.mk' hc
 have HK:=Hid.mk' hkey
 have HX:=Hid.mk' hx
 have hnI:(n:Int)≤1000000:=by omega
 have hdl:d.length=n:=h.l
 have a0:(0:Int)≤(a:Int):=by omega
 have bI:(b:Int)≤(n:Int):=by omega
 clear h hc hkey hx
 go_enter Tryz.func138,Tryz.ntmps138
 go_wp2
 go_loopw [8] (fun vi wr=>∃ i:Nat,vi = .int .i64 ((i:Int)+1)∧a≤i∧(i<b∨i=a)∧Hid (∃ e,Sq w0 wr blk cap n e∧Mix d e a (min (i+1) b)∧SS key e a (min (i+1) b))) (fun vi _=>b+1 - (intOf vi).toNat)
 case atStart=>exact ⟨a,rfl,Nat.le_refl _,.inr rfl,d,HS.out,Mix.refl _ _ _,fun i j h1 h2 h3=>by omega⟩
 case round=>
  obtain ⟨i,rfl,hai,hib,HE⟩:=hrel
  have hi0:(0:Int)≤(i:Int):=by omega
  by_cases hlt:i+1<b
  · have hltI:(i:Int)+1<(b:Int):=by omega
    have HE1:Hid (∃ e,Sq w0 wr blk cap n e∧Mix d e a (i+1)∧SS key e a (i+1)):=by
     have:=HE.out
     rw [show min (i+1) b=i+1 by omega] at this
     exact this
    obtain ⟨e,hsq,hmix,hss⟩:=HE1.out
    have HM:=Hid.mk' hmix
    have HSS:=Hid.mk' hss
    have HQ:=Hid.mk' hsq
    clear HE HE1 hsq hmix hss
    go_wp2
    go_loopw [9] (fun vj wr=>∃ j:Nat,vj = .int .i64 j∧a≤j∧j≤i+1∧Hid (∃ f,Sq w0 wr blk cap n f∧MvL e f (i+1) j∧∀ t,j≤t→t<i+1→lt key (bAt e (i+1)) (bAt e t))) (fun vj _=>(intOf vj).toNat)
    case atStart=>exact ⟨i+1,by go_num,by omega,Nat.le_refl _,e,HQ.out,MvL.zero _ _,fun t h1 h2=>by omega⟩
    case round=>
     obtain ⟨j,rfl,haj,hji,HF⟩:=hrel
     have hj0:(0:Int)≤(j:Int):=by omega
     obtain ⟨f,hsq,hmv,hlt2⟩:=HF.out
     by_cases hja:a<j
     · have hjaI:(a:Int)<(j:Int):=by omega
       have hjad:decide ((a:Int)<(j:Int))=true:=by simpa using hjaI
       have c1:=hsq.cell (j:=j) (by omega)
       have c2:=hsq.cell (j:=j - 1) (by omega)
       have r1:=hsq.r j (by omega)
       have r2:=hsq.r (j - 1) (by omega)
       have hfz:=hsq.frozen
       have e1:bAt f j=bAt e (i+1):=hmv.y
       have e2:bAt f (j - 1)=bAt e (j - 1):=hmv.z (j - 1) (by omega)
       have HC1:Hid (∀ m os,Calls Tryz.prog 93 #[.int .i64 (bAt f j),.int .i64 (bAt f (j - 1)),.pointer (some ⟨bx,0,none⟩)] (Go.Sort.grow (wr.drewN m) os) fun e w'=>e = .returned (.int .i64 (key (bAt f (j - 1)) - key (bAt f j)))∧Grown (Go.Sort.grow (wr.drewN m) os) w'):=fun m os=>HC.out _ ((hsq.grown ((Grown.refl wr).quiet m os)).f) _ _ r1.1 r1.2 r2.1 r2.2
       have t1:((j:Int) - 1).toNat=j - 1:=by omega
       have k1:=fun m os=>((Grown.refl wr).quiet m os).cellv c1
       have k2:=fun m os=>((Grown.refl wr).quiet m os).cellv c2
       have hK1:=HK.out (bAt f j)
       have hK2:=HK.out (bAt f (j - 1))
       have hpos:=hj0
       obtain ⟨D,hD⟩:∃ D,key (bAt f (j - 1)) - key (bAt f j)=D:=⟨_,rfl⟩
       rw [hD] at HC1
       by_cases hcl:key (bAt f (j - 1))<key (bAt f j)
       · have hDl:D<0:=by omega
         have hDd:decide (D<0)=true:=by simpa using hDl
         have HSW:Hid (∀ V,Grown wr V→Sq w0 ((V.setCell ⟨blk,j,none⟩ (.int .i64 (bAt f (j - 1)))).setCell ⟨blk,j - 1,none⟩ (.int .i64 (bAt f j))) blk cap n (swp f j (j - 1))):=fun V hg=>(hsq.grown hg).swap (by omega) (by omega)
         have HNX:Hid (MvL e (swp f j (j - 1)) (i+1) (j - 1)∧∀ t,j - 1≤t→t<i+1→lt key (bAt e (i+1)) (bAt e t)):=by
          have hel:e.length=n:=HQ.out.l
          refine ⟨?_,fun t h1 h2 => ?_⟩
          · have:=MvL.succ (k:=j - 1) (by rw [show j - 1+1=j by omega];exact hmv) (by omega) (by omega)
            rw [show j - 1+1=j by omega] at this
            exact this
          · by_cases ht:t=j - 1
            · subst ht;rw [←e1,←e2];exact lt_clt hcl
            · exact hlt2 t (by omega) h2
         have HFZ:Hid (∀ V,Grown wr V→∀ j,V.frozen? ⟨blk,j,none⟩=false):=fun V hg j=>(hsq.grown hg).frozen j
         generalize bAt f j=x at *
         generalize bAt f (j - 1)=y at *
         clear hsq hmv hlt2 HF hcl hK1 hK2 hD e1 e2 r1 r2
         go_wp2
         refine wp_region_quiet_grown mixed (by kernel_rfl) ?_
         repeat (go_big_quiet_step ((go_at_call 93;exact grown_of (HC1.out _ _))))
         refine wpQuiet_nil ?_
         intro _ hw'
         obtain ⟨⟨nq,osq⟩,hw''⟩:=hw'
         subst hw''
         have g1:=k1 nq osq
         have g2:=k2 nq osq
         have gG:Grown wr (Go.Sort.grow (wr.drewN nq) osq):=(Grown.refl wr).quiet nq osq
         have HS2:=Hid.mk' (fun V (hg:Grown (Go.Sort.grow (wr.drewN nq) osq) V)=>HSW.out V (gG.trans hg))
         have gf:∀ j,(Go.Sort.grow (wr.drewN nq) osq).frozen? ⟨blk,j,none⟩=false:=fun j=>HFZ.out _ gG j
         generalize Go.Sort.grow (wr.drewN nq) osq=wB at g1 g2 HS2 gf ⊢
         clear k1 k2 HC1 c1 c2 hfz HSW gG
         go_wp2
         go_region
         all_goals (go_wp2;exact ⟨⟨j - 1,by rw [show (j:Int) - 1=((j - 1:Nat):Int) by omega],by omega,by omega,_,(HS2.out wB (Grown.refl _)).grown ((Grown.refl _).drew),HNX.out.1,HNX.out.2⟩,by simp [intOf];omega⟩)
       · have HFIN:Hid (∀ V,Grown wr V→∃ e',Sq w0 V blk cap n e'∧Mix d e' a (min (i+1+1) b)∧SS key e' a (min (i+1+1) b)):=fun V hg=>by
          have hdn:=hmv.done (key:=key) haj hji HSS.out (.inr (lt_not (by
           obtain ⟨t,p1,p2,p3⟩:=(HM.out.s (bAt e (j - 1))).1 ⟨j - 1,by omega,by omega,rfl⟩
           rw [←p3,HM.out.o (i+1) (by omega)]
           exact HX.out t (i+1) p1 p2 hlt) (by rw [←e1,←e2];exact hcl))) (if hjx:j=i+1 then .inl hjx else .inr (hlt2 j (Nat.le_refl _) (by omega)))
          rw [show min (i+1+1) b=i+1+1 by omega]
          exact ⟨f,hsq.grown hg,(HM.out.wide (Nat.le_refl _) (by omega)).trans hdn.1,hdn.2⟩
         have hDl:¬ D<0:=by omega
         have hDd:decide (D<0)=false:=by simpa using hDl
         generalize bAt f j=x at *
         generalize bAt f (j - 1)=y at *
         clear hsq hmv hlt2 HF hcl hK1 hK2 hD e1 e2 r1 r2 hfz
         go_wp2
         refine wp_region_quiet_grown mixed (by kernel_rfl) ?_
         repeat (go_big_quiet_step ((go_at_call 93;exact grown_of (HC1.out _ _))))
         refine wpQuiet_nil ?_
         intro _ hw'
         obtain ⟨⟨nq,osq⟩,hw''⟩:=hw'
         subst hw''
         go_wp2
         exact ⟨⟨i+1,by go_num,by omega,.inl (by omega),HFIN.out _ ((Grown.refl wr).quiet _ _)⟩,by simp [intOf];omega⟩
     · have HFIN:Hid (∀ V,Grown wr V→∃ e',Sq w0 V blk cap n e'∧Mix d e' a (min (i+1+1) b)∧SS key e' a (min (i+1+1) b)):=fun V hg=>by
        have hdn:=hmv.done (key:=key) haj hji HSS.out (.inl (by omega)) (if hjx:j=i+1 then .inl hjx else .inr (hlt2 j (Nat.le_refl _) (by omega)))
        rw [show min (i+1+1) b=i+1+1 by omega]
        exact ⟨f,hsq.grown hg,(HM.out.wide (Nat.le_refl _) (by omega)).trans hdn.1,hdn.2⟩
       have hjaI:¬ (a:Int)<(j:Int):=by omega
       have hjad:decide ((a:Int)<(j:Int))=false:=by simpa using hjaI
       clear hsq hmv hlt2 HF
       go_wp2
       refine wp_region_quiet_grown mixed (by kernel_rfl) ?_
       repeat (go_big_quiet_step (fail))
       refine wpQuiet_nil ?_
       intro _ hw'
       obtain ⟨⟨nq,osq⟩,hw''⟩:=hw'
       subst hw''
       go_wp2
       exact ⟨⟨i+1,by go_num,by omega,.inl (by omega),HFIN.out _ ((Grown.refl wr).quiet _ _)⟩,by simp [intOf];omega⟩
  · have hge:¬ (i:Int)+1<(b:Int):=by omega
    have HE2:Hid (∃ e,Sq w0 wr blk cap n e∧Mix d e a b∧SS key e a b):=by
     have:=HE.out
     rw [show min (i+1) b=b by omega] at this
     exact this
    go_wp2
    go_end0
    exact ⟨rfl,HE2.out⟩
end Go.Proofs
