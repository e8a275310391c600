/-
  Several texts in one (Tk Tl Oa9 Rv If Tr).
-/
import Derived.RangeFuncNested
import Derived.RangeFuncBound
import Derived.RangeFuncCalls
import Derived.RangeFuncLeaves
import Derived.Shelf.Abstract
import Derived.Shelf.RegionOpen
import Derived.WalkKit
import Derived.WalkSpells
import Derived.WalkLawsBesides
import Derived.OwnWalkIn
import Derived.TacticsInMore
import Derived.LoopNIn
import Derived.LoopIn
import Derived.BigQuiet
import Derived.RegionIn
import Derived.Deep.QuietTactic
import Derived.Deep.RegionWith
import Derived.Lib.OthersKept
import Derived.Maps.AppendAt
import Derived.Lib.SmallJoins
import Derived.Shelf.SlSortCmp.QuietGrown
import Derived.Test.YtibgnkpagfpinaaGreatDoorMgjt
import Derived.Test.YtibgnkpagfpinaaGreatDoorMgdt
import Derived.Test.YtibgnkpagfpinaaGreatDoorMgit
import Derived.RangeFuncWrites
import Derived.RangeFuncBox
import Derived.Test.YtibgnkpagfpinaaGreatDoorMgft
import Derived.Test.YtibgnkpagfpinaaGreatDoorVat
import Derived.Deep.AppendLies
import Derived.Deep.Upon
namespace Go.Proofs
open Go.RowKit Go.Shelf
set_option maxRecDepth 100000
attribute [local go_sem] Oper.semAt_some
attribute [local go_sem ↓] Go.wp_at_zero Go.wp_at_succ
theorem beg_of_fit {r:Rl} {u:Int} {dn lr:List Int} (h:fitsB r dn (u::lr)=true):fitsB (key1 r) [] [u]=true:=by
 unfold fitsB at h
 rw [Bool.and_eq_true,decide_eq_true_iff] at h
 obtain ⟨h1,h2⟩:=h
 have hO:=chk_ok h1
 unfold fitB at h2
 rw [Bool.and_eq_true] at h2
 have hk:=hO.k0
 have hS:=hO.kS
 cases hke:r.key with
 | nil=>rw [hke] at hk;simp at hk
 | cons s ks=>
  rw [hke] at h2 hS
  have h3:=h2.1
  rw [List.cons_append] at h3
  unfold stU at h3
  rw [Bool.and_eq_true] at h3
  rw [List.all_cons,Bool.and_eq_true] at hS
  have hc:chk (key1 r)=0:=by
   unfold chk key1
   simp [hke,hS.1,fstE]
  unfold fitsB fitB
  rw [hc]
  simp [key1,hke,stU,h3.1]
theorem begF_fit {rs:List Rl} {u:Int} {dn lr:List Int} (n:Int):(begF rs u n && fitN rs dn (u::lr) n)=fitN rs dn (u::lr) n:=by
 unfold begF fitN
 cases rs[n.toNat]? with
 | none=>rfl
 | some r=>
  cases hf:fitsB r dn (u::lr) with
  | false=>simp [hf]
  | true=>simp [hf,beg_of_fit hf]
theorem nxtW_eq (rs:List Rl) (d dn:List Int) (u:Int) (lr:List Int):nxtW rs d dn (u::lr)=(d.find? (fitN rs dn (u::lr))).getD (-1):=by
 unfold nxtW begL
 rw [List.find?_filter]
 have e:(fun a=>decide (begF rs ((u::lr).headD 0) a=true∧fitN rs dn (u::lr) a=true))=fitN rs dn (u::lr):=by
  funext n
  have:=begF_fit (rs:=rs) (u:=u) (dn:=dn) (lr:=lr) n
  refine Eq.trans ?_ this
  rw [Bool.decide_and,Bool.decide_eq_true,Bool.decide_eq_true]
  rfl
 rw [e]
theorem pig:∀ (n:Nat) (f:Nat→Nat),(∀ i,i<n→f i<n)→(∀ i j,i<j→j<n→f i≠f j)→∀ m,m<n→∃ i,i<n∧f i=m
 | 0,_,_,_,m,hm=>by omega
 | n+1,f,h1,h2,m,hm=>by
  have ih:=pig n (fun i=>if f i=n then f n else f i) (fun i hi=>by
   have a:=h1 i (by omega)
   have b:=h1 n (by omega)
   have c:=h2 i n hi (by omega)
   show (if f i=n then f n else f i)<n
   split <;> omega) (fun i j hij hj=>by
   have a:=h2 i j hij (by omega)
   have b:=h2 i n (by omega) (by omega)
   have c:=h2 j n hj (by omega)
   show (if f i=n then f n else f i)≠(if f j=n then f n else f j)
   split <;> split <;> omega)
  by_cases hmn:m=n
  · by_cases hp:f n=n
    · exact ⟨n,by omega,by omega⟩
    · obtain ⟨i,hi,he⟩:=ih (f n) (by have:=h1 n (by omega);omega)
      have c:=h2 i n hi (by omega)
      have he:(if f i=n then f n else f i)=f n:=he
      split at he
      · rename_i h;exact ⟨i,by omega,by omega⟩
      · exact absurd he c
  · obtain ⟨i,hi,he⟩:=ih m (by omega)
    have he:(if f i=n then f n else f i)=m:=he
    split at he
    · exact ⟨n,by omega,he⟩
    · exact ⟨i,by omega,he⟩
theorem bAt_in {d:List Int} {i:Nat} (h:i<d.length):bAt d i=d[i]:=by simp [bAt,h]
theorem ord_all {key:Int→Int} {d:List Int} {n:Nat} (h:Sg key d 0 n) (m:Nat) (hm:m<n):∃ i,i<n∧bAt d i=(m:Int):=by
 obtain ⟨i,hi,he⟩:=pig n (fun i=>(bAt d i).toNat) (fun i hi=>by have:=h.r i (Nat.zero_le _) hi;show (bAt d i).toNat<n;omega) (fun i j hij hj=>by
  have a:=h.s i j (Nat.zero_le _) hij hj
  have b:=h.r i (Nat.zero_le _) (by omega)
  have c:=h.r j (Nat.zero_le _) hj
  show (bAt d i).toNat≠(bAt d j).toNat
  intro e
  have e2:bAt d i=bAt d j:=by omega
  unfold lt at a
  rw [e2] at a
  omega) m hm
 have b:=h.r i (Nat.zero_le _) hi
 have he:(bAt d i).toNat=m:=he
 exact ⟨i,hi,by omega⟩
theorem fitN_at {rs:List Rl} {dn lf:List Int} {j:Nat} (hj:j<rs.length) (hc:chk rs[j]=0):fitN rs dn lf (j:Int)=fitB rs[j] dn lf:=by
 unfold fitN
 rw [Int.toNat_natCast,List.getElem?_eq_getElem hj]
 simp [fitsB,hc]
theorem nxt_best {rs:List Rl} {d dn lf:List Int} (h:Sg (klI rs) d 0 rs.length) (hl:d.length=rs.length) (hall:(allE rs).2=0) (hck:∀ r∈rs,chk r=0):(d.find? (fitN rs dn lf)).getD (-1)=fdF rs dn lf:=by
 obtain ⟨m,hB⟩:=fdF_best dn lf hall
 have hfit:∀ (j:Nat) (hj:j<rs.length),fitN rs dn lf (j:Int)=fitB rs[j] dn lf:=fun j hj=>fitN_at hj (hck _ (List.getElem_mem hj))
 cases hf:d.find? (fitN rs dn lf) with
 | none=>
  have hno:=List.find?_eq_none.1 hf
  rcases hB with ⟨e,_⟩ | ⟨j,hj,_,_,hfj,_⟩
  · injection e with e _
    rw [e];rfl
  · obtain ⟨i,hi,he⟩:=ord_all h j hj
    rw [bAt_in (by omega)] at he
    have:=hno d[i] (List.getElem_mem (by omega))
    rw [he,hfit j hj] at this
    exact absurd hfj this
 | some x=>
  obtain ⟨hx,aa,bs,hd,has⟩:=List.find?_eq_some_iff_append.1 hf
  have hk:aa.length<d.length:=by rw [hd];simp
  have hdk:bAt d aa.length=x:=by rw [bAt_in hk];simp [hd]
  have hr:=h.r aa.length (Nat.zero_le _) (by omega)
  rw [hdk] at hr
  obtain ⟨j,rfl⟩:∃ j:Nat,x=(j:Int):=⟨x.toNat,by omega⟩
  have hj:j<rs.length:=by omega
  rw [hfit j hj] at hx
  rcases hB with ⟨_,hno⟩ | ⟨j',hj',_,e,hfj',hmax⟩
  · rw [hno j hj hj] at hx;cases hx
  · injection e with e _
    rw [e]
    show (j:Int)=(j':Int)
    obtain ⟨i,hi,he⟩:=ord_all h j' hj'
    by_cases hik:i<aa.length
    · have hmem:d[i]'(by omega)∈aa:=by
       have:d[i]'(by omega)=aa[i]:=by simp [hd,hik]
       rw [this]
       exact List.getElem_mem hik
      have:=has _ hmem
      rw [bAt_in (by omega)] at he
      rw [he,hfit j' hj',hfj'] at this
      cases this
    · by_cases hik2:i=aa.length
      · subst hik2;rw [←hdk,he]
      · have hlt:=h.s aa.length i (Nat.zero_le _) (by omega) hi
        rw [hdk,he] at hlt
        unfold lt at hlt
        rw [kl_at hj,kl_at hj'] at hlt
        have:=hmax j hj hj hx
        omega
theorem stB_iff:∀ (ls:List (List (Int × Int))) (us:List Int),stB ls us=true↔ls.length=us.length∧∀ (i:Nat) (s:List (Int × Int)) (u:Int),ls[i]? = some s→us[i]? = some u→hasB s u=true
 | [],[]=>by simp [stB]
 | [],u::us=>by simp [stB]
 | s::ls,[]=>by simp [stB]
 | s::ls,u::us=>by
  have e:stB (s::ls) (u::us)=(hasB s u && stB ls us):=by
   unfold stB
   simp only [List.length_cons,List.zip_cons_cons,List.all_cons,Nat.add_right_cancel_iff]
   cases decide (ls.length=us.length) <;> cases hasB s u <;> simp
  rw [e,Bool.and_eq_true,stB_iff ls us]
  constructor
  · rintro ⟨h1,h2,h3⟩
    refine ⟨by simp [h2],fun i a b ha hb => ?_⟩
    cases i with
    | zero=>simp at ha hb;subst ha hb;exact h1
    | succ i=>exact h3 i a b (by simpa using ha) (by simpa using hb)
  · rintro ⟨h1,h2⟩
    exact ⟨h2 0 s u rfl rfl,by simpa using h1,fun i a b ha hb=>h2 (i+1) a b (by simpa using ha) (by simpa using hb)⟩
theorem stU_iff:∀ (ss:List (List (Int × Int))) (us:List Int) (al:Bool),stU us ss al=true↔ss.length≤us.length∧(∀ (i:Nat) (s:List (Int × Int)) (u:Int),ss[i]? = some s→us[i]? = some u→hasB s u=true)∧(al=true→us.length≤ss.length)
 | [],us,al=>by
  rw [stU_end]
  cases us <;> cases al <;> simp
 | s::ss,[],al=>by simp [stU_none]
 | s::ss,u::us,al=>by
  rw [stU_cons,Bool.and_eq_true,stU_iff ss us al]
  constructor
  · rintro ⟨h1,h2,h3,h4⟩
    refine ⟨by simpa using h2,fun i a b ha hb => ?_,fun h=>by simpa using h4 h⟩
    cases i with
    | zero=>simp at ha hb;subst ha hb;exact h1
    | succ i=>exact h3 i a b (by simpa using ha) (by simpa using hb)
  · rintro ⟨h1,h2,h3⟩
    exact ⟨h2 0 s u rfl rfl,by simpa using h1,fun i a b ha hb=>h2 (i+1) a b (by simpa using ha) (by simpa using hb),fun h=>by simpa using h3 h⟩
theorem stF_fit (r:Rl) (d l:List Int):stF r d l=fitB r d l:=by
 rw [Bool.eq_iff_iff]
 unfold fitB stF
 rw [Bool.and_eq_true,stU_iff,stU_iff,List.length_append,List.length_reverse,List.length_reverse]
 by_cases h1:l.length<r.key.length+r.post.length∨d.length<r.ante.length
 · rw [if_pos h1]
   constructor
   · intro h;cases h
   · rintro ⟨⟨a,_⟩,b,_⟩;omega
 · rw [if_neg h1]
   by_cases h2:(r.bg=true∧r.ante.length<d.length)∨(r.en=true∧r.key.length+r.post.length<l.length)
   · rw [if_pos h2]
     constructor
     · intro h;cases h
     · rintro ⟨⟨_,_,a⟩,_,_,b⟩
       rcases h2 with ⟨e,h⟩ | ⟨e,h⟩
       · have:=b e;omega
       · have:=a e;omega
   · rw [if_neg h2,Bool.and_eq_true,Bool.and_eq_true,stB_iff,stB_iff,stB_iff]
     have hl1:r.key.length+r.post.length≤l.length:=by omega
     have hd1:r.ante.length≤d.length:=by omega
     constructor
     · rintro ⟨⟨⟨_,hk⟩,⟨_,hp⟩⟩,⟨_,ha⟩⟩
       refine ⟨⟨hl1,fun i s u hs hu => ?_,fun e => ?_⟩,hd1,fun i s u hs hu => ?_,fun e => ?_⟩
       · by_cases hi:i<r.key.length
         · rw [List.getElem?_append_left hi] at hs
           exact hk i s u hs (by rw [List.getElem?_take,if_pos hi];exact hu)
         · rw [List.getElem?_append_right (by omega)] at hs
           have hip:=(List.getElem?_eq_some_iff.1 hs).1
           refine hp (i - r.key.length) s u hs ?_
           rw [List.getElem?_take,if_pos hip,List.getElem?_drop,show r.key.length+(i - r.key.length)=i by omega]
           exact hu
       · rcases Nat.lt_or_ge (r.key.length+r.post.length) l.length with h | h
         · exact absurd (.inr ⟨e,h⟩) h2
         · exact h
       · have hi:i<r.ante.length:=by have:=(List.getElem?_eq_some_iff.1 hs).1;simpa using this
         rw [List.getElem?_reverse hi] at hs
         rw [List.getElem?_reverse (by omega)] at hu
         refine ha (r.ante.length - 1 - i) s u hs ?_
         rw [List.getElem?_drop,show d.length - r.ante.length+(r.ante.length - 1 - i)=d.length - 1 - i by omega]
         exact hu
       · rcases Nat.lt_or_ge r.ante.length d.length with h | h
         · exact absurd (.inl ⟨e,h⟩) h2
         · exact h
     · rintro ⟨⟨_,hk,_⟩,_,ha,_⟩
       refine ⟨⟨⟨by rw [List.length_take];omega,fun i s u hs hu => ?_⟩,⟨by rw [List.length_take,List.length_drop];omega,fun i s u hs hu => ?_⟩⟩,⟨by rw [List.length_drop];omega,fun i s u hs hu => ?_⟩⟩
       · have hi:=(List.getElem?_eq_some_iff.1 hs).1
         rw [List.getElem?_take,if_pos hi] at hu
         exact hk i s u (by rw [List.getElem?_append_left hi];exact hs) hu
       · have hi:=(List.getElem?_eq_some_iff.1 hs).1
         rw [List.getElem?_take,if_pos hi,List.getElem?_drop] at hu
         exact hk (r.key.length+i) s u (by rw [List.getElem?_append_right (by omega),show r.key.length+i - r.key.length=i by omega];exact hs) hu
       · have hi:=(List.getElem?_eq_some_iff.1 hs).1
         rw [List.getElem?_drop] at hu
         refine ha (r.ante.length - 1 - i) s u ?_ ?_
         · rw [List.getElem?_reverse (by omega),show r.ante.length - 1 - (r.ante.length - 1 - i)=i by omega];exact hs
         · rw [List.getElem?_reverse (by omega),show d.length - 1 - (r.ante.length - 1 - i)=d.length - r.ante.length+i by omega];exact hu
theorem nxtK_fd {rs:List Rl} (d l:List Int) (hO:∀ r∈rs,0<r.key.length):∀ k,k≤rs.length→nxtK rs d l k=(fdK rs d l k).1
 | 0,_=>rfl
 | k+1,hk=>by
  have hkl:k<rs.length:=hk
  have h0:=hO _ (List.getElem_mem hkl)
  have e:kl rs (k:Int)=rs[k].key.length:=by simp [kl,hkl]
  rw [nxtK,fdK_succ d l hkl,nxtK_fd d l hO k (by omega),List.getElem?_eq_getElem hkl,e]
  have hs:(((some rs[k]).map fun r=>stF r d l).getD false)=fitB rs[k] d l:=stF_fit _ _ _
  rw [hs]
  rcases fdK_best d l hO k (by omega) with ⟨e1,_⟩ | ⟨j,hj,_,e1,_⟩
  · rw [e1]
    by_cases hf:fitB rs[k] d l=true
    · rw [if_pos ⟨hf,.inl (by decide)⟩,if_pos ⟨h0,hf⟩]
    · rw [if_neg (fun h=>hf h.1),if_neg (fun h=>hf h.2)]
  · rw [e1]
    have ej:kl rs (j:Int)=rs[j].key.length:=by simp [kl,hj]
    simp only [ej]
    by_cases hf:fitB rs[k] d l=true∧rs[j].key.length<rs[k].key.length
    · rw [if_pos ⟨hf.1,.inr hf.2⟩,if_pos ⟨hf.2,hf.1⟩]
    · rw [if_neg,if_neg]
      · exact fun h=>hf ⟨h.2,h.1⟩
      · rintro ⟨h1,h2 | h2⟩
        · omega
        · exact hf ⟨h1,h2⟩
structure KAll (Z:Nat→Prop) (b:Nat) (X Y:World):Prop where
 bel:Below b X Y
 same:∀ k o,Z k→X.heap[k]? = some o→Y.heap[k]? = some o
theorem KAll.trans {Z:Nat→Prop} {b:Nat} {X Y V:World} (h:KAll Z b X Y) (k:KAll Z b Y V):KAll Z b X V:=⟨h.bel.trans k.bel,fun i o hi ho=>k.same i o hi (h.same i o hi ho)⟩
theorem KAll.mono {Z Z':Nat→Prop} {b b':Nat} {X Y:World} (h:KAll Z b X Y) (hz:∀ k,Z' k→Z k) (hb:b'≤b):KAll Z' b' X Y:=⟨h.bel.mono hb,fun k o hk ho=>h.same k o (hz k hk) ho⟩
theorem KAll.grown {Z:Nat→Prop} {b:Nat} {X Y:World} (h:Grown X Y) (hb:b≤X.heap.size):KAll Z b X Y:=⟨h.below.mono hb,fun k _ _ ho=>(h.below.block k (blk_lt ho)).trans ho⟩
theorem KAll.put {Z:Nat→Prop} {b l:Nat} {X:World} (o:Obj) (hl:¬ Z l) (hb:b≤l):KAll Z b X (X.putObj l o):=⟨⟨rfl,rfl,rfl,by simp,fun k hk=>World.putObj_heap_other (by omega)⟩,fun k o' hk ho=>(World.putObj_heap_other (fun e=>hl (by rw [←e];exact hk))).trans ho⟩
theorem fr_put {X:World} {l:Nat} (o:Obj):Fr X (X.putObj l o) fun k=>k=l:=⟨rfl,rfl,rfl,by simp,fun k _ hn=>World.putObj_heap_other hn⟩
theorem yield_wide {m m' l l1:Nat} {args:Array Value} {W:World} {R:Ending→World→Prop} (h:YieldAt Fence.wide m Tryz.prog l args W R):YieldAt (Fence.wide.inRound l1) m' Tryz.prog l args W R:=by
 obtain ⟨fn,tmps,assign,body,hy,hR⟩:=h
 exact ⟨fn,tmps,assign,body,hy,hR.1,fun c cs _=>hR.2 c cs (room_wide _)⟩
def fs1 (x:Stp):List Value:=[.int .i64 x.r,.int .i64 x.d,.int .i64 x.l,.int .i64 x.t,.int .i64 x.a,.int .i64 x.b]
theorem nxtW_K {rs:List Rl} {d dn lf:List Int} (hs:Sg (klI rs) d 0 rs.length) (hl:d.length=rs.length) (hall:(allE rs).2=0) (hck:∀ r∈rs,chk r=0) (hlf:lf≠[]):nxtW rs d dn lf=nxtK rs dn lf rs.length:=by
 cases lf with
 | nil=>exact absurd rfl hlf
 | cons u lr=>
  rw [nxtW_eq,nxt_best hs hl hall hck,nxtK_fd dn (u::lr) (fun r hr=>(chk_ok (hck r hr)).k0) _ (Nat.le_refl _)]
  unfold fdF
  rw [if_pos hall]
theorem AllU.inI {l:List Int} (h:AllU l):∀ x∈l,InI x:=fun x hx=>by
 have:=h x hx
 unfold wd at this
 unfold InI
 split at this <;> (try split at this) <;> (try split at this) <;> (try split at this) <;> (try split at this) <;> omega
structure PW (W0:World) (v:Value) (rs:List Rl) (st:St):Prop where
 tab:Tab W0
 z:0<W0.heap.size
 psr:PsR W0 v rs
 fin:Fin rs st
 all:(allE rs).2=0
 ck:∀ r∈rs,chk r=0
structure Wk (Z:Nat→Prop) (T:Nat) (W0 w:World) (B wb mb:Nat) (v lv:Value) (rs:List Rl) (d:List Int) (l0:List Int) (xs:List Stp) (dn lf:List Int) (N:Nat) (dv uv:Value) (n room:Nat) (uu:List Int) (f:Int→Option Value):Prop where
 blk:WKB w wb v lv (.map (some mb)) dv uv room
 map:IMap w mb N f
 fi:FI w B rs d f
 don:OwnI w B dv dn
 uni:OwnI w B uv uu
 ul:uu.length=n
 rm:room≤n
 lfe:uu.drop room=lf
 n3:n≤3000000
 ord:OwnI w B lv d
 oln:d.length=rs.length
 srt:Sg (klI rs) d 0 rs.length
 du:∀ b,dv.ownBlock=some b→uv.ownBlock≠some b
 lx:∀ b,lv.ownBlock=some b→dv.ownBlock≠some b∧uv.ownBlock≠some b
 fx:∀ u bv,f u=some bv→∀ b,bv.ownBlock=some b→dv.ownBlock≠some b∧uv.ownBlock≠some b
 bel:Below W0.heap.size W0 w
 b0:W0.heap.size≤B
 b1:B≤mb
 b2:B≤wb
 b3:B≤w.heap.size
 at3:G3 rs l0 xs dn lf
 nN:N=xs.length
 zt:∀ k,T≤k→Z k
 tw:T≤w.heap.size
 zb:∀ k,Z k→B≤k
 zw:Z wb
 zm:Z mb
 zd:∀ b,dv.ownBlock=some b→Z b
 zu:∀ b,uv.ownBlock=some b→Z b
 zl:∀ b,lv.ownBlock=some b→Z b
 zf:∀ u bv,f u=some bv→∀ b,bv.ownBlock=some b→Z b
theorem Wk.mapne {w:World} {mb N:Nat} {f:Int→Option Value} {B:Nat} {v:Value} {l:List Int} (hm:IMap w mb N f) (ho:OwnI w B v l) {b:Nat} (hb:v.ownBlock=some b):b≠mb:=fun e=>by
 obtain ⟨cur,hc⟩:=own_at ho hb
 obtain ⟨es,cc,he⟩:=hm.isMap
 rw [e,he] at hc
 cases hc
theorem FM.fx {w:World} {f f':Int→Option Value} (hM:FM w.heap.size f f') {X:Nat→Prop} (hX:∀ b,X b→b<w.heap.size) (h:∀ u bv,f u=some bv→∀ b,bv.ownBlock=some b→¬ X b):∀ u bv,f' u=some bv→∀ b,bv.ownBlock=some b→¬ X b:=fun u bv hu b hb hx=>by
 rcases hM u bv hu with h1 | h1
 · exact h u bv h1 b hb hx
 · have:=h1 b hb
   have:=hX b hx
   omega
theorem Wk.step {Z:Nat→Prop} {T:Nat} {W0 w w':World} {B wb mb:Nat} {v lv:Value} {rs:List Rl} {st:St} {d l0:List Int} {xs:List Stp} {dn lf:List Int} {N:Nat} {dv uv:Value} {n room:Nat} {uu:List Int} {f:Int→Option Value} (hP:PW W0 v rs st) (hl0:l0.length≤16384) (h:Wk Z T W0 w B wb mb v lv rs d l0 xs dn lf N dv uv n room uu f) (hlf:lf≠[]) {x:Array Value} {La bl:List Int} {took:Nat} {e:Ending} (hQ:SkQ w B wb mb N rs d dn uu v lv dv uv n room f x La bl took e w')
 (hLa:La=layd rs dn lf) (hbl:bl++lf.drop took=lefd rs dn lf) (_hb16:bl.length≤16) (htk:room+took≤n) (hx:x=(fs1 (stp rs dn lf)).toArray) :
 e = .returned (.agg (fs1 (stp rs dn lf)).toArray)∧(∃ dv' uv' n' room' uu' f',Wk Z T W0 w' B wb mb v lv rs d l0 (xs++[stp rs dn lf]) (dn++layd rs dn lf) (lefd rs dn lf) (N+1) dv' uv' n' room' uu' f')∧Fr w w' Z:=by
 obtain ⟨w3,f',W6,dv',w7,he,hNx,hFM,hRB,hO6,hbk,hF6,hS,hF7⟩:=hQ
 subst hx
 have hFw:Fr w w' Z:=by
  refine (((hNx.fr.mono fun k _ e => ?_).trans hF6 fun k _ e => ?_).trans hS.fr fun k _ e => ?_).trans hF7 fun k _ e => ?_
  · rw [e];exact h.zm
  · rcases e with e | e
    · rw [e];exact h.zw
    · exact h.zd k e
  · rcases e with e | e
    · rw [e];exact h.zw
    · exact h.zu k e
  · exact h.zt k (by have:=h.tw;omega)
 refine ⟨he,?_,?_⟩
 · obtain ⟨A,c,m,room',uu',hW7,hU7,hul,hrm,hdr,hm,hA⟩:=hS.ex
   have hs3:w.heap.size≤w3.heap.size:=hNx.fr.size
   have hs6:w3.heap.size≤W6.heap.size:=hF6.size
   have hs7:W6.heap.size≤w7.heap.size:=hS.fr.size
   have hdlt:∀ b,dv.ownBlock=some b→b<w.heap.size:=fun b hb=>(World.ownsRow.lt h.don b hb).2
   have hult:∀ b,uv.ownBlock=some b→b<w.heap.size:=fun b hb=>(World.ownsRow.lt h.uni b hb).2
   have hllt:∀ b,lv.ownBlock=some b→b<w.heap.size:=fun b hb=>(World.ownsRow.lt h.ord b hb).2
   have hwlt:wb<w.heap.size:=blk_lt h.blk
   have hmlt:mb<w.heap.size:=by obtain ⟨es,cc,he⟩:=h.map.isMap;exact blk_lt he
   -- how the whole moves: what is touched
   have hwm:wb≠mb:=fun e=>by
    obtain ⟨es,cc,he⟩:=h.map.isMap
    have h':=h.blk
    unfold WKB at h'
    rw [e,he] at h'
    cases h'
   have hbk':∀ b,dv'.ownBlock=some b→dv.ownBlock=some b∨w3.heap.size≤b:=fun b hb=>by
    rcases hbk with e1 | ⟨g,e1,e2⟩
    · exact .inl (by rw [←e1];exact hb)
    · rw [e1] at hb;injection hb with hb;exact .inr (by omega)
   have hA':∀ b,(Value.slice A m c).ownBlock=some b→uv.ownBlock=some b∨W6.heap.size≤b:=fun b hb=>by
    have e0:(Value.slice A m c).ownBlock=A.map (·.block):=by cases A <;> rfl
    rw [e0] at hb
    rcases hA with e1 | ⟨g,e1,e2⟩
    · exact .inl (by rw [←e1];exact hb)
    · rw [e1] at hb
      injection hb with hb
      exact .inr (by have hb:g=b:=hb;omega)
   have hd6lt:∀ b,dv'.ownBlock=some b→b<W6.heap.size:=fun b hb=>(World.ownsRow.lt hO6 b hb).2
   -- a frame from w3 to the end
   have hF37:Fr w3 w' fun k=>k=wb∨dv.ownBlock=some k∨uv.ownBlock=some k∨k=w.heap.size:=by
    refine ((hF6.mono fun k _ e => ?_).trans hS.fr fun k _ e => ?_).trans hF7 fun k _ e => .inr (.inr (.inr e))
    · rcases e with e | e
      · exact .inl e
      · exact .inr (.inl e)
    · rcases e with e | e
      · exact .inl e
      · exact .inr (.inr (.inl e))
   have hne0:∀ {b:Nat},b<w.heap.size→b≠w.heap.size:=fun hb e=>by omega
   have hfi3:FI w3 B rs d f':=hNx.fi
   have hm3:=hNx.map
   have hfx3:∀ u bv,f' u=some bv→∀ b,bv.ownBlock=some b→¬ (dv.ownBlock=some b∨uv.ownBlock=some b):=FM.fx hFM (fun b hb=>hb.elim (hdlt b) (hult b)) fun u bv hu b hb hx=>by
    have:=h.fx u bv hu b hb
    exact hx.elim this.1 this.2
   -- the list of a unit lies in no box of the walk,and not in the result's
   have hlst:∀ u bv,f' u=some bv→∀ b,bv.ownBlock=some b→¬ (b=wb∨dv.ownBlock=some b∨uv.ownBlock=some b∨b=w.heap.size):=fun u bv hu b hb hx=>by
    have hcell:=own_at (hfi3 u bv hu) hb
    obtain ⟨cur,hcell⟩:=hcell
    rcases hx with e | e | e | e
    · subst e
      have h3:=(hNx.fr.block b hwlt hwm).trans h.blk
      unfold WKB at h3
      rw [hcell] at h3
      injection h3 with h3
      injection h3 with _ h3 _
      cases h3
    · exact hfx3 u bv hu b hb (.inl e)
    · exact hfx3 u bv hu b hb (.inr e)
    · subst e
      obtain ⟨cs,hcs⟩:=hRB
      rw [hcell] at hcs
      injection hcs with hcs
      injection hcs with _ hcs _
      cases hcs
   have hfi':FI w' B rs d f':=fun u bv hu=>own_fr (hfi3 u bv hu) hF37 fun b hb=>hlst u bv hu b hb
   have hm':IMap w' mb (N+1) f':=hm3.kept fun o ho=>(hF37.block mb (blk_lt ho) fun e=>by
    rcases e with e | e | e | e
    · exact hwm e.symm
    · exact Wk.mapne h.map h.don e rfl
    · exact Wk.mapne h.map h.uni e rfl
    · omega).trans ho
   have hrne:w.heap.size<W6.heap.size:=by
    obtain ⟨cs,hcs⟩:=hRB
    have:=blk_lt hcs
    omega
   have hr3:w.heap.size<w3.heap.size:=by
    obtain ⟨cs,hcs⟩:=hRB
    exact blk_lt hcs
   have hdon:OwnI w' B dv' (dn++La):=own_fr (own_fr hO6 hS.fr fun b hb e=>by
    rcases e with e | e
    · rcases hbk' b hb with h1 | h1
      · exact h.blk.ne h.don h1 e
      · omega
    · rcases hbk' b hb with h1 | h1
      · exact h.du b h1 e
      · have:=hult b e;omega) hF7 fun b hb e=>by
    rcases hbk' b hb with h1 | h1
    · have:=hdlt b h1;omega
    · omega
   have hbw7:B≤w7.heap.size:=by have:=h.b3;omega
   have huni:OwnI w' B (.slice A m c) uu':=own_fr hU7 hF7 fun b hb e=>by
    rcases hA' b hb with h1 | h1
    · have:=hult b h1;omega
    · omega
   have hblk:WKB w' wb v lv (.map (some mb)) dv' (.slice A m c) room':=hW7.fr hF7 (by omega)
   have hord:OwnI w' B lv d:=own_fr (own_fr h.ord hNx.fr fun b hb e=>Wk.mapne h.map h.ord hb e) hF37 fun b hb e=>by
    rcases e with e | e | e | e
    · exact h.blk.ne h.ord hb e
    · exact (h.lx b hb).1 e
    · exact (h.lx b hb).2 e
    · have:=hllt b hb;omega
   have hdrop:uu'.drop room'=lefd rs dn lf:=by
    rw [hdr,←hbl,←h.lfe,List.drop_drop]
   have hG:=h.at3.snoc hlf
   have hn':m≤3000000:=by
    rcases hm with h1 | ⟨h1,h2⟩
    · rw [h1];exact h.n3
    · have hln:=(hG.lens hP.fin hP.ck)
      have e1:(lefd rs dn lf).length=bl.length+(n - (room+took)):=by
       rw [←hbl,List.length_append,←h.lfe,List.drop_drop,List.length_drop,h.ul]
      omega
   refine ⟨dv',.slice A m c,m,room',uu',f',hblk,hm',hfi',by rw [←hLa];exact hdon,huni,hul,hrm,hdrop,hn',hord,h.oln,h.srt,fun b hb e => ?_,fun b hb=>⟨fun e => ?_,fun e => ?_⟩,fun u bv hu b hb=>⟨fun e => ?_,fun e => ?_⟩,?_,h.b0,h.b1,h.b2,?_,hG,by simp [h.nN],h.zt,Nat.le_trans h.tw hFw.size,h.zb,h.zw,h.zm,fun b hb => ?_,fun b hb => ?_,h.zl,fun u bv hu b hb => ?_⟩
   · rcases hA' b e with h1 | h1
     · rcases hbk' b hb with h2 | h2
       · exact h.du b h2 h1
       · have:=hult b h1;omega
     · have:=hd6lt b hb;omega
   · have:=hllt b hb
     rcases hbk' b e with h2 | h2
     · exact (h.lx b hb).1 h2
     · omega
   · have:=hllt b hb
     rcases hA' b e with h2 | h2
     · exact (h.lx b hb).2 h2
     · omega
   · have hlt3:=(World.ownsRow.lt (hfi3 u bv hu) b hb).2
     rcases hbk' b e with h2 | h2
     · exact hfx3 u bv hu b hb (.inl h2)
     · omega
   · have hlt3:=(World.ownsRow.lt (hfi3 u bv hu) b hb).2
     rcases hA' b e with h2 | h2
     · exact hfx3 u bv hu b hb (.inr h2)
     · omega
   · exact h.bel.trans ((hFw.below (fun k hk=>h.zb k hk) h.b3).mono h.b0)
   · have:=hFw.size
     have:=h.b3
     omega
   · rcases hbk' b hb with h1 | h1
     · exact h.zd b h1
     · exact h.zt b (by have:=h.tw;omega)
   · rcases hA' b hb with h1 | h1
     · exact h.zu b h1
     · exact h.zt b (by have:=h.tw;omega)
   · rcases hFM u bv hu with h1 | h1
     · exact h.zf u bv h1 b hb
     · exact h.zt b (by have:=h.tw;have:=h1 b hb;omega)
 · exact hFw
theorem Wk.keep {Z:Nat→Prop} {T:Nat} {W0 X Y:World} {B wb mb:Nat} {v lv:Value} {rs:List Rl} {d l0:List Int} {xs:List Stp} {dn lf:List Int} {N:Nat} {dv uv:Value} {n room:Nat} {uu:List Int} {f:Int→Option Value} (h:Wk Z T W0 X B wb mb v lv rs d l0 xs dn lf N dv uv n room uu f) {b2:Nat} (hk:KAll Z b2 X Y) (hb:W0.heap.size≤b2):Wk Z T W0 Y B wb mb v lv rs d l0 xs dn lf N dv uv n room uu f:=by
 have own:∀ {v:Value} {l:List Int},OwnI X B v l→(∀ b,v.ownBlock=some b→Z b)→OwnI Y B v l:=fun {v l} ho hz=>by
  refine ⟨ho.1,ho.2.imp id fun ⟨g,cap,cur,e,h1,h2,h3⟩=>⟨g,cap,cur,e,h1,hk.same g _ (hz g (by rw [e];rfl)) h2,h3⟩⟩
 exact ⟨hk.same _ _ h.zw h.blk,h.map.kept fun o ho=>hk.same _ _ h.zm ho,fun u bv hu=>own (h.fi u bv hu) (h.zf u bv hu),own h.don h.zd,own h.uni h.zu,h.ul,h.rm,h.lfe,h.n3,own h.ord h.zl,h.oln,h.srt,h.du,h.lx,h.fx,h.bel.trans (hk.bel.mono hb),h.b0,h.b1,h.b2,Nat.le_trans h.b3 hk.bel.size,h.at3,h.nN,h.zt,Nat.le_trans h.tw hk.bel.size,h.zb,h.zw,h.zm,h.zd,h.zu,h.zl,h.zf⟩
def StepQ (Z:Nat→Prop) (T:Nat) (W0 w:World) (B wb mb:Nat) (v lv:Value) (rs:List Rl) (d l0:List Int) (xs:List Stp) (dn lf:List Int) (e:Ending) (w':World):Prop:=
 e = .returned (.agg (fs1 (stp rs dn lf)).toArray)∧(∃ dv' uv' n' room' uu' f',Wk Z T W0 w' B wb mb v lv rs d l0 (xs++[stp rs dn lf]) (dn++layd rs dn lf) (lefd rs dn lf) (xs.length+1) dv' uv' n' room' uu' f')∧Fr w w' Z
theorem step_any {Z:Nat→Prop} {T:Nat} {W0 w:World} {B wb mb:Nat} {v lv:Value} {rs:List Rl} {st:St} {d l0:List Int} {xs:List Stp} {dn lf:List Int} {N:Nat} {dv uv:Value} {n room:Nat} {uu:List Int} {f:Int→Option Value} (hP:PW W0 v rs st) (hl0:l0.length≤16384) (hu0:AllU l0) (h:Wk Z T W0 w B wb mb v lv rs d l0 xs dn lf N dv uv n room uu f) (hlf:lf≠[]) :
 Calls Tryz.prog 62 #[.pointer (some ⟨wb,0,none⟩)] w (StepQ Z T W0 w B wb mb v lv rs d l0 xs dn lf):=by
 have hlen:=h.at3.lens hP.fin hP.ck
 have hun:=(h.at3.k hP.ck).un hu0
 have hl0':=List.length_pos_iff.2 hlf
 have hll:lf.length=n - room:=by rw [←h.lfe,List.length_drop,h.ul]
 have hrn:room<n:=by omega
 obtain ⟨g,c,huv⟩:∃ g c,uv = .slice (some ⟨g,0,none⟩) n c:=by
  rcases h.uni.2 with ⟨_,e⟩ | ⟨g,cap,cur,e,_⟩
  · rw [h.ul] at e;omega
  · rw [h.ul] at e;exact ⟨g,cap,e⟩
 have hN:=h.nN
 have hall:=hP.all
 have hrl:rs.length≤1000000:=by have:=hP.fin.n;omega
 have hnx:=nxtW_K (dn:=dn) h.srt h.oln hall hP.ck hlf
 have hnlf:=nextS_ok hP.ck dn hl0'
 have hdr:∀ x∈d,0≤x∧x<(rs.length:Int):=fun x hx=>by
  obtain ⟨i,hi,rfl⟩:=List.getElem_of_mem hx
  have h1:=h.srt.r i (Nat.zero_le _) (by rw [←h.oln];exact hi)
  rw [bAt_in hi] at h1
  exact ⟨by have:=h1.1;omega,h1.2⟩
 have hk0:∀ r∈rs,0<r.key.length∧r.key.length≤1000000:=fun r hr=>by have h1:=chk_ok (hP.ck r hr);exact ⟨h1.k0,by have:=h1.k8;omega⟩
 have hW:=h
 subst huv
 have hmlt:mb<w.heap.size:=by obtain ⟨es,cc,he⟩:=h.map.isMap;exact blk_lt he
 have hdu:∀ b,dv.ownBlock=some b→b≠g:=fun b hb e=>h.du b hb (by rw [e];rfl)
 have hui:∀ x∈uu.drop room,InI x:=by rw [h.lfe];exact hun.1.inI
 rcases hnlf with ⟨h1,hok⟩ | ⟨i,hi,h1,h2,h3,hok⟩
 · obtain ⟨e1,e2,e3⟩:=stp_none h1
   have hs:=step_none hP.tab hP.z h.blk h.map (by omega) hP.psr h.bel (Nat.le_trans h.b0 h.b1) hk0 h.ord.ir (by rw [h.oln];exact hrl) hdr h.fi h.b3 h.don (by omega) h.uni h.ul hrn (by have:=h.n3;omega) hui hmlt (by have:=h.n3;omega) hdu (by rw [h.lfe,hnx,h1])
   rw [h.lfe] at hs
   refine hs.mono fun e w' hQ => ?_
   have:=hW.step hP hl0 hlf hQ e2.symm (by rw [e3];rfl) (by simp) (by omega) (by rw [e1,hll];rfl)
   rw [hN] at this
   exact this
 · obtain ⟨e1,e2,e3⟩:=stp_rule hi h1
   have hO:=chk_ok (hP.ck _ (List.getElem_mem hi))
   have ho:(outs rs[i] (lf.take rs[i].key.length)).length=rs[i].res.length:=by simp [outs]
   have q1:=hO.r16
   have q2:=hO.c0
   have q3:=hO.c1
   have hs:=step_rule hP.tab hP.z h.blk h.map (by omega) hP.psr h.bel (Nat.le_trans h.b0 h.b1) hk0 h.ord.ir (by rw [h.oln];exact hrl) hdr h.fi h.b3 h.don (by omega) h.uni h.ul hrn (by have:=h.n3;omega) hui hmlt (by have:=h.n3;omega) hdu hi (by rw [h.lfe,hnx,h1]) (by omega) (by rw [h.lfe];exact h3) hO rfl rfl rfl
   rw [h.lfe] at hs
   refine hs.mono fun e w' hQ => ?_
   have:=hW.step hP hl0 hlf hQ e2.symm e3.symm (by rw [List.length_drop,ho];omega) (by omega) (by
    have e4:(((outs rs[i] (lf.take rs[i].key.length)).take rs[i].cu.toNat).length:Int)=rs[i].cu:=by rw [List.length_take,ho];omega
    have e5:((outs rs[i] (lf.take rs[i].key.length)).drop rs[i].cu.toNat).length=(backP rs[i]).length:=by rw [List.length_drop,ho];simp [backP]
    rw [e1,hll,e4,e5]
    rfl)
   rw [hN] at this
   exact this
end Go.Proofs
