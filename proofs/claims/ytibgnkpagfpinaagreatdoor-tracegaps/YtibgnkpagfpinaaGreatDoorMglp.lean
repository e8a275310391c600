/-
  Several texts in one (Tk Tl Oa9 Rv If).
-/
import Derived.RangeFuncNested
import Derived.RangeFuncBound
import Derived.RangeFuncCalls
import Derived.RangeFuncLeaves
import Derived.Shelf.Abstract
import Derived.Shelf.RegionOpen
import Derived.WalkKit
import Derived.WalkSpells
import Derived.WalkLawsBesides
import Derived.OwnWalkIn
import Derived.TacticsInMore
import Derived.LoopNIn
import Derived.LoopIn
import Derived.BigQuiet
import Derived.RegionIn
import Derived.Deep.QuietTactic
import Derived.Deep.RegionWith
import Derived.Lib.OthersKept
import Derived.Maps.AppendAt
import Derived.Lib.SmallJoins
import Derived.Shelf.SlSortCmp.QuietGrown
import Derived.Test.YtibgnkpagfpinaaGreatDoorMgkp
import Derived.Test.YtibgnkpagfpinaaGreatDoorMgdp
import Derived.Test.YtibgnkpagfpinaaGreatDoorMgjp
import Derived.RangeFuncWrites
import Derived.RangeFuncBox
import Derived.Test.YtibgnkpagfpinaaGreatDoorMgfp
import Derived.Test.YtibgnkpagfpinaaGreatDoorVap
import Derived.Deep.AppendLies
import Derived.Deep.Upon
namespace Go.Proofs
open Go.RowKit Go.Shelf
set_option maxRecDepth 100000
attribute [local go_sem] Oper.semAt_some
attribute [local go_sem ↓] Go.wp_at_zero Go.wp_at_succ
theorem beg_of_fit {r:Rl} {u:Int} {dn lr:List Int} (h:fitsB r dn (u::lr)=true):fitsB (key1 r) [] [u]=true:=by
 unfold fitsB at h
 rw [Bool.and_eq_true,decide_eq_true_iff] at h
 obtain ⟨h1,h2⟩:=h
 have hO:=chk_ok h1
 unfold fitB at h2
 rw [Bool.and_eq_true] at h2
 have hk:=hO.k0
 have hS:=hO.kS
 cases hke:r.key with
 | nil=>rw [hke] at hk;simp at hk
 | cons s ks=>
  rw [hke] at h2 hS
  have h3:=h2.1
  rw [List.cons_append] at h3
  unfold stU at h3
  rw [Bool.and_eq_true] at h3
  rw [List.all_cons,Bool.and_eq_true] at hS
  have hc:chk (key1 r)=0:=by
   unfold chk key1
   simp [hke,hS.1,fstE]
  unfold fitsB fitB
  rw [hc]
  simp [key1,hke,stU,h3.1]
theorem begF_fit {rs:List Rl} {u:Int} {dn lr:List Int} (n:Int):(begF rs u n && fitN rs dn (u::lr) n)=fitN rs dn (u::lr) n:=by
 unfold begF fitN
 cases rs[n.toNat]? with
 | none=>rfl
 | some r=>
  cases hf:fitsB r dn (u::lr) with
  | false=>simp [hf]
  | true=>simp [hf,beg_of_fit hf]
theorem nxtW_eq (rs:List Rl) (d dn:List Int) (u:Int) (lr:List Int):nxtW rs d dn (u::lr)=(d.find? (fitN rs dn (u::lr))).getD (-1):=by
 unfold nxtW begL
 rw [List.find?_filter]
 have e:(fun a=>decide (begF rs ((u::lr).headD 0) a=true∧fitN rs dn (u::lr) a=true))=fitN rs dn (u::lr):=by
  funext n
  have:=begF_fit (rs:=rs) (u:=u) (dn:=dn) (lr:=lr) n
  refine Eq.trans ?_ this
  rw [Bool.decide_and,Bool.decide_eq_true,Bool.decide_eq_true]
  rfl
 rw [e]
theorem pig:∀ (n:Nat) (f:Nat→Nat),(∀ i,i<n→f i<n)→(∀ i j,i<j→j<n→f i≠f j)→∀ m,m<n→∃ i,i<n∧f i=m
 | 0,_,_,_,m,hm=>by omega
 | n+1,f,h1,h2,m,hm=>by
  have ih:=pig n (fun i=>if f i=n then f n else f i) (fun i hi=>by
   have a:=h1 i (by omega)
   have b:=h1 n (by omega)
   have c:=h2 i n hi (by omega)
   show (if f i=n then f n else f i)<n
   split <;> omega) (fun i j hij hj=>by
   have a:=h2 i j hij (by omega)
   have b:=h2 i n (by omega) (by omega)
   have c:=h2 j n hj (by omega)
   show (if f i=n then f n else f i)≠(if f j=n then f n else f j)
   split <;> split <;> omega)
  by_cases hmn:m=n
  · by_cases hp:f n=n
    · exact ⟨n,by omega,by omega⟩
    · obtain ⟨i,hi,he⟩:=ih (f n) (by have:=h1 n (by omega);omega)
      have c:=h2 i n hi (by omega)
      have he:(if f i=n then f n else f i)=f n:=he
      split at he
      · rename_i h;exact ⟨i,by omega,by omega⟩
      · exact absurd he c
  · obtain ⟨i,hi,he⟩:=ih m (by omega)
    have he:(if f i=n then f n else f i)=m:=he
    split at he
    · exact ⟨n,by omega,he⟩
    · exact ⟨i,by omega,he⟩
theorem bAt_in {d:List Int} {i:Nat} (h:i<d.length):bAt d i=d[i]:=by simp [bAt,h]
theorem ord_all {key:Int→Int} {d:List Int} {n:Nat} (h:Sg key d 0 n) (m:Nat) (hm:m<n):∃ i,i<n∧bAt d i=(m:Int):=by
 obtain ⟨i,hi,he⟩:=pig n (fun i=>(bAt d i).toNat) (fun i hi=>by have:=h.r i (Nat.zero_le _) hi;show (bAt d i).toNat<n;omega) (fun i j hij hj=>by
  have a:=h.s i j (Nat.zero_le _) hij hj
  have b:=h.r i (Nat.zero_le _) (by omega)
  have c:=h.r j (Nat.zero_le _) hj
  show (bAt d i).toNat≠(bAt d j).toNat
  intro e
  have e2:bAt d i=bAt d j:=by omega
  unfold lt at a
  rw [e2] at a
  omega) m hm
 have b:=h.r i (Nat.zero_le _) hi
 have he:(bAt d i).toNat=m:=he
 exact ⟨i,hi,by omega⟩
theorem fitN_at {rs:List Rl} {dn lf:List Int} {j:Nat} (hj:j<rs.length) (hc:chk rs[j]=0):fitN rs dn lf (j:Int)=fitB rs[j] dn lf:=by
 unfold fitN
 rw [Int.toNat_natCast,List.getElem?_eq_getElem hj]
 simp [fitsB,hc]
theorem nxt_best {rs:List Rl} {d dn lf:List Int} (h:Sg (klI rs) d 0 rs.length) (hl:d.length=rs.length) (hall:(allE rs).2=0) (hck:∀ r∈rs,chk r=0):(d.find? (fitN rs dn lf)).getD (-1)=fdF rs dn lf:=by
 obtain ⟨m,hB⟩:=fdF_best dn lf hall
 have hfit:∀ (j:Nat) (hj:j<rs.length),fitN rs dn lf (j:Int)=fitB rs[j] dn lf:=fun j hj=>fitN_at hj (hck _ (List.getElem_mem hj))
 cases hf:d.find? (fitN rs dn lf) with
 | none=>
  have hno:=List.find?_eq_none.1 hf
  rcases hB with ⟨e,_⟩ | ⟨j,hj,_,_,hfj,_⟩
  · injection e with e _
    rw [e];rfl
  · obtain ⟨i,hi,he⟩:=ord_all h j hj
    rw [bAt_in (by omega)] at he
    have:=hno d[i] (List.getElem_mem (by omega))
    rw [he,hfit j hj] at this
    exact absurd hfj this
 | some x=>
  obtain ⟨hx,aa,bs,hd,has⟩:=List.find?_eq_some_iff_append.1 hf
  have hk:aa.length<d.length:=by rw [hd];simp
  have hdk:bAt d aa.length=x:=by rw [bAt_in hk];simp [hd]
  have hr:=h.r aa.length (Nat.zero_le _) (by omega)
  rw [hdk] at hr
  obtain ⟨j,rfl⟩:∃ j:Nat,x=(j:Int):=⟨x.toNat,by omega⟩
  have hj:j<rs.length:=by omega
  rw [hfit j hj] at hx
  rcases hB with ⟨_,hno⟩ | ⟨j',hj',_,e,hfj',hmax⟩
  · rw [hno j hj hj] at hx;cases hx
  · injection e with e _
    rw [e]
    show (j:Int)=(j':Int)
    obtain ⟨i,hi,he⟩:=ord_all h j' hj'
    by_cases hik:i<aa.length
    · have hmem:d[i]'(by omega)∈aa:=by
       have:d[i]'(by omega)=aa[i]:=by simp [hd,hik]
       rw [this]
       exact List.getElem_mem hik
      have:=has _ hmem
      rw [bAt_in (by omega)] at he
      rw [he,hfit j' hj',hfj'] at this
      cases this
    · by_cases hik2:i=aa.length
      · subst hik2;rw [←hdk,he]
      · have hlt:=h.s aa.length i (Nat.zero_le _) (by omega) hi
        rw [hdk,he] at hlt
        unfold lt at hlt
        rw [kl_at hj,kl_at hj'] at hlt
        have:=hmax j hj hj hx
        omega
theorem stB_iff:∀ (ls:List (List (Int × Int))) (us:List Int),stB ls us=true↔ls.length=us.length∧∀ (i:Nat) (s:List (Int × Int)) (u:Int),ls[i]? = some s→us[i]? = some u→hasB s u=true
 | [],[]=>by simp [stB]
 | [],u::us=>by simp [stB]
 | s::ls,[]=>by simp [stB]
 | s::ls,u::us=>by
  have e:stB (s::ls) (u::us)=(hasB s u && stB ls us):=by
   unfold stB
   simp only [List.length_cons,List.zip_cons_cons,List.all_cons,Nat.add_right_cancel_iff]
   cases decide (ls.length=us.length) <;> cases hasB s u <;> simp
  rw [e,Bool.and_eq_true,stB_iff ls us]
  constructor
  · rintro ⟨h1,h2,h3⟩
    refine ⟨by simp [h2],fun i a b ha hb => ?_⟩
    cases i with
    | zero=>simp at ha hb;subst ha hb;exact h1
    | succ i=>exact h3 i a b (by simpa using ha) (by simpa using hb)
  · rintro ⟨h1,h2⟩
    exact ⟨h2 0 s u rfl rfl,by simpa using h1,fun i a b ha hb=>h2 (i+1) a b (by simpa using ha) (by simpa using hb)⟩
theorem stU_iff:∀ (ss:List (List (Int × Int))) (us:List Int) (al:Bool),stU us ss al=true↔ss.length≤us.length∧(∀ (i:Nat) (s:List (Int × Int)) (u:Int),ss[i]? = some s→us[i]? = some u→hasB s u=true)∧(al=true→us.length≤ss.length)
 | [],us,al=>by
  rw [stU_end]
  cases us <;> cases al <;> simp
 | s::ss,[],al=>by simp [stU_none]
 | s::ss,u::us,al=>by
  rw [stU_cons,Bool.and_eq_true,stU_iff ss us al]
  constructor
  · rintro ⟨h1,h2,h3,h4⟩
    refine ⟨by simpa using h2,fun i a b ha hb => ?_,fun h=>by simpa using h4 h⟩
    cases i with
    | zero=>simp at ha hb;subst ha hb;exact h1
    | succ i=>exact h3 i a b (by simpa using ha) (by simpa using hb)
  · rintro ⟨h1,h2,h3⟩
    exact ⟨h2 0 s u rfl rfl,by simpa using h1,fun i a b ha hb=>h2 (i+1) a b (by simpa using ha) (by simpa using hb),fun h=>by simpa using h3 h⟩
theorem stF_fit (r:Rl) (d l:List Int):stF r d l=fitB r d l:=by
 rw [Bool.eq_iff_iff]
 unfold fitB stF
 rw [Bool.and_eq_true,stU_iff,stU_iff,List.length_append,List.length_reverse,List.length_reverse]
 by_cases h1:l.length<r.key.length+r.post.length∨d.length<r.ante.length
 · rw [if_pos h1]
   constructor
   · intro h;cases h
   · rintro ⟨⟨a,_⟩,b,_⟩;omega
 · rw [if_neg h1]
   by_cases h2:(r.bg=true∧r.ante.length<d.length)∨(r.en=true∧r.key.length+r.post.length<l.length)
   · rw [if_pos h2]
     constructor
     · intro h;cases h
     · rintro ⟨⟨_,_,a⟩,_,_,b⟩
       rcases h2 with ⟨e,h⟩ | ⟨e,h⟩
       · have:=b e;omega
       · have:=a e;omega
   · rw [if_neg h2,Bool.and_eq_true,Bool.and_eq_true,stB_iff,stB_iff,stB_iff]
     have hl1:r.key.length+r.post.length≤l.length:=by omega
     have hd1:r.ante.length≤d.length:=by omega
     constructor
     · rintro ⟨⟨⟨_,hk⟩,⟨_,hp⟩⟩,⟨_,ha⟩⟩
       refine ⟨⟨hl1,fun i s u hs hu => ?_,fun e => ?_⟩,hd1,fun i s u hs hu => ?_,fun e => ?_⟩
       · by_cases hi:i<r.key.length
         · rw [List.getElem?_append_left hi] at hs
           exact hk i s u hs (by rw [List.getElem?_take,if_pos hi];exact hu)
         · rw [List.getElem?_append_right (by omega)] at hs
           have hip:=(List.getElem?_eq_some_iff.1 hs).1
           refine hp (i - r.key.length) s u hs ?_
           rw [List.getElem?_take,if_pos hip,List.getElem?_drop,show r.key.length+(i - r.key.length)=i by omega]
           exact hu
       · rcases Nat.lt_or_ge (r.key.length+r.post.length) l.length with h | h
         · exact absurd (.inr ⟨e,h⟩) h2
         · exact h
       · have hi:i<r.ante.length:=by have:=(List.getElem?_eq_some_iff.1 hs).1;simpa using this
         rw [List.getElem?_reverse hi] at hs
         rw [List.getElem?_reverse (by omega)] at hu
         refine ha (r.ante.length - 1 - i) s u hs ?_
         rw [List.getElem?_drop,show d.length - r.ante.length+(r.ante.length - 1 - i)=d.length - 1 - i by omega]
         exact hu
       · rcases Nat.lt_or_ge r.ante.length d.length with h | h
         · exact absurd (.inl ⟨e,h⟩) h2
         · exact h
     · rintro ⟨⟨_,hk,_⟩,_,ha,_⟩
       refine ⟨⟨⟨by rw [List.length_take];omega,fun i s u hs hu => ?_⟩,⟨by rw [List.length_take,List.length_drop];omega,fun i s u hs hu => ?_⟩⟩,⟨by rw [List.length_drop];omega,fun i s u hs hu => ?_⟩⟩
       · have hi:=(List.getElem?_eq_some_iff.1 hs).1
         rw [List.getElem?_take,if_pos hi] at hu
         exact hk i s u (by rw [List.getElem?_append_left hi];exact hs) hu
       · have hi:=(List.getElem?_eq_some_iff.1 hs).1
         rw [List.getElem?_take,if_pos hi,List.getElem?_drop] at hu
         exact hk (r.key.length+i) s u (by rw [List.getElem?_append_right (by omega),show r.key.length+i - r.key.length=i by omega];exact hs) hu
       · have hi:=(List.getElem?_eq_some_iff.1 hs).1
         rw [List.getElem?_drop] at hu
         refine ha (r.ante.length - 1 - i) s u ?_ ?_
         · rw [List.getElem?_reverse (by omega),show r.ante.length - 1 - (r.ante.length - 1 - i)=i by omega];exact hs
         · rw [List.getElem?_reverse (by omega),show d.length - 1 - (r.ante.length - 1 - i)=d.length - r.ante.length+i by omega];exact hu
theorem nxtK_fd {rs:List Rl} (d l:List Int) (hO:∀ r∈rs,0<r.key.length):∀ k,k≤rs.length→nxtK rs d l k=(fdK rs d l k).1
 | 0,_=>rfl
 | k+1,hk=>by
  have hkl:k<rs.length:=hk
  have h0:=hO _ (List.getElem_mem hkl)
  have e:kl rs (k:Int)=rs[k].key.length:=by simp [kl,hkl]
  rw [nxtK,fdK_succ d l hkl,nxtK_fd d l hO k (by omega),List.getElem?_eq_getElem hkl,e]
  have hs:(((some rs[k]).map fun r=>stF r d l).getD false)=fitB rs[k] d l:=stF_fit _ _ _
  rw [hs]
  rcases fdK_best d l hO k (by omega) with ⟨e1,_⟩ | ⟨j,hj,_,e1,_⟩
  · rw [e1]
    by_cases hf:fitB rs[k] d l=true
    · rw [if_pos ⟨hf,.inl (by decide)⟩,if_pos ⟨h0,hf⟩]
    · rw [if_neg (fun h=>hf h.1),if_neg (fun h=>hf h.2)]
  · rw [e1]
    have ej:kl rs (j:Int)=rs[j].key.length:=by simp [kl,hj]
    simp only [ej]
    by_cases hf:fitB rs[k] d l=true∧rs[j].key.length<rs[k].key.length
    · rw [if_pos ⟨hf.1,.inr hf.2⟩,if_pos ⟨hf.2,hf.1⟩]
    · rw [if_neg,if_neg]
      · exact fun h=>hf ⟨h.2,h.1⟩
      · rintro ⟨h1,h2 | h2⟩
        · omega
        · exact hf ⟨h1,h2⟩
structure KAll (Z:Nat→Prop) (b:Nat) (X Y:World):Prop where
 bel:Below b X Y
 same:∀ k o,Z k→X.heap[k]? = some o→Y.heap[k]? = some o
theorem KAll.refl (Z:Nat→Prop) (b:Nat) (X:World):KAll Z b X X:=⟨Below.refl _ _,fun _ _ _ h=>h⟩
theorem KAll.trans {Z:Nat→Prop} {b:Nat} {X Y V:World} (h:KAll Z b X Y) (k:KAll Z b Y V):KAll Z b X V:=⟨h.bel.trans k.bel,fun i o hi ho=>k.same i o hi (h.same i o hi ho)⟩
theorem KAll.mono {Z Z':Nat→Prop} {b b':Nat} {X Y:World} (h:KAll Z b X Y) (hz:∀ k,Z' k→Z k) (hb:b'≤b):KAll Z' b' X Y:=⟨h.bel.mono hb,fun k o hk ho=>h.same k o (hz k hk) ho⟩
theorem KAll.grown {Z:Nat→Prop} {b:Nat} {X Y:World} (h:Grown X Y) (hb:b≤X.heap.size):KAll Z b X Y:=⟨h.below.mono hb,fun k _ _ ho=>(h.below.block k (blk_lt ho)).trans ho⟩
theorem KAll.put {Z:Nat→Prop} {b l:Nat} {X:World} (o:Obj) (hl:¬ Z l) (hb:b≤l):KAll Z b X (X.putObj l o):=⟨⟨rfl,rfl,rfl,by simp,fun k hk=>World.putObj_heap_other (by omega)⟩,fun k o' hk ho=>(World.putObj_heap_other (fun e=>hl (by rw [←e];exact hk))).trans ho⟩
theorem fr_put {X:World} {l:Nat} (o:Obj):Fr X (X.putObj l o) fun k=>k=l:=⟨rfl,rfl,rfl,by simp,fun k _ hn=>World.putObj_heap_other hn⟩
def Stab {α:Type} (Z:Nat→Prop) (J:List α→World→Prop):Prop:=∀ s X Y,J s X→Fr X Y Z→J s Y
def SeqZ {α:Type} (n g:Nat) (pa lb:Array Value) (enc:α→Array Value) (xf:List α) (b:Nat) (Z:Nat→Prop) (E:World→Prop) (V:World) (l:Nat):Prop:=
 ∀ (J Jx:List α→World→Prop),Stab Z J→Stab Z Jx →
  (∀ pre x X,J pre X→pre++[x] <+: xf→YieldAt Fence.wide (n - 1) Tryz.prog l (enc x) X fun e Y=>(e = .returned (.bool true)∧J (pre++[x]) Y∧KAll Z b X Y)∨(e = .returned (.bool false)∧Jx (pre++[x]) Y∧KAll Z b X Y)) →
  J [] V→CallsIn Fence.wide n Tryz.prog g (pa++#[.func (.yield l) #[] #[]]++lb) V fun e Y=>(∃ v,e = .returned v)∧((J xf Y∧E Y)∨∃ pre,(pre <+: xf∧pre≠[])∧Jx pre Y)
def wPost {α:Type} (Z:Nat→Prop) (b:Nat) (I:List α→World→Prop) (Ix:Code→List α→World→Prop) (s:List α) (X:World):Exit→Act→World→Prop
 | .normal,_,Y=>KAll Z b X Y∧I s Y
 | .ret,_,Y=>KAll Z b X Y∧Ix .ret s Y
 | .exit id,_,Y=>KAll Z b X Y∧Ix (.exit id) s Y
 | .goto t,_,Y=>KAll Z b X Y∧Ix (.goto t) s Y
 | .panic _,_,_=>False
 | .outgrown,_,_=>False
theorem wpIn_overQ {α:Type} {enc:α→Array Value} {n:Nat} {g:Operand} {ps:Array Tmp} {assign body:Code} {Q:Exit→Act→World→Prop} {a:Act} {w:World} (h1:1≤n) {gf:Nat} {pa lb:Array Value}
 (hg:a.eval g = .func (.func gf) pa lb) (eg:∀ args w,(callFunc gf args).run Tryz.prog w = .ok (.enter gf args) w) {xf:List α} {b h:Nat} {Z:Nat→Prop} {E:World→Prop} (hh:h=w.heap.size) (hbh:b≤h) (hZ0:¬ Z h) (hZ1:¬ Z (h+1))
 (hseq:∀ r:Loop,SeqZ (n - 1) gf pa lb enc xf b Z E ((w.alloc (.deferred (some []))).alloc (.loop r)) (h+1)) (hE:∀ X o,E X→E (X.putObj (h+1) o)) (hps:∀ x,(enc x).size=ps.size)
 (I:List α→World→Prop) (Ix:Code→List α→World→Prop) (hI:Stab (fun k=>Z k∨h≤k) I) (hIx:∀ c,Stab (fun k=>Z k∨h≤k) (Ix c)) (h0:I [] w)
 (hround:∀ (pre:List α) (x:α) (W:World),pre++[x] <+: xf→h+2≤W.heap.size→assign.wpIn (Fence.wide.inRound (h+1)) (n - 1 - 1) Tryz.prog (Exit.then (fun a' W'=>Grown W W'∧∀ X,I pre X→X.heap.size=W'.heap.size→(∀ k,k≠h+1→X.heap[k]? = W'.heap[k]?)→(∃ r,X.heap[h+1]? = some (.loop r))→body.wpIn (Fence.wide.inRound (h+1)) (n - 1 - 1) Tryz.prog (wPost (fun k=>Z k∨h≤k) b I Ix (pre++[x]) X) a' X) (fun _ _ _=>False)) { tmps:=(ps.zip (enc x)).foldl (fun t (p,v)=>t.setIfInBounds p v) a.tmps,defers:=[] } W)
 (hdone:∀ (D:Nat) (W:World),h≤D→I xf W→E W→W.heap[D]? = some (.deferred (some []))→Q .normal { a with defers := { target := .collected D,args:=#[] } :: a.defers } W)
 (hstop:∀ (D:Nat) (c:Code) (pre:List α) (W:World),h≤D→(pre <+: xf∧pre≠[])→Ix c pre W→W.heap[D]? = some (.deferred (some []))→c.wpIn Fence.wide n Tryz.prog Q { a with defers := { target := .collected D,args:=#[] } :: a.defers } W) :
 (Code.rangeFunc g ps assign body).wpIn Fence.wide n Tryz.prog Q a w:=by
 refine wpIn_rangeFunc ?_
 intro fn hfn
 let rc:LoopState→Option Code→Loop:=fun st pe => { state:=st,pending:=pe,fn,tmps:=a.tmps,params:=ps,assign,body,defers:=h }
 let V:World:=(w.alloc (.deferred (some []))).alloc (.loop (rc .ready none))
 have hV:V.heap.size=h+2:=by simp [V,hh]
 have hV1:V.heap[h+1]? = some (.loop (rc .ready none)):=by
  have e:=World.alloc_heap_new (w.alloc (.deferred (some []))) (.loop (rc .ready none))
  rw [World.size_alloc,←hh] at e;exact e
 have hV0:V.heap[h]? = some (.deferred (some [])):=by
  have e:=World.alloc_heap_new w (.deferred (some []))
  rw [←hh] at e
  exact (Below.heap_alloc _ _ _ (by simp [hh])).trans e
 have hfV:Fr w V fun k=>Z k∨h≤k:=fr_grown (((Grown.refl w).alloc _).alloc _) _
 have far:∀ {X Y:World} {k:Nat} {o:Obj},Fr X Y Z→¬ Z k→X.heap[k]? = some o→Y.heap[k]? = some o:=fun {X Y k o} hf hk ho=>(hf.block k (blk_lt ho) hk).trans ho
 have wide:∀ {X Y:World},Fr X Y Z→Fr X Y fun k=>Z k∨h≤k:=fun {X Y} hf=>hf.mono fun _ _ e => .inl e
 have putI:∀ {X:World} {s:List α} (o:Obj),I s X→I s (X.putObj (h+1) o):=fun {X s} o hi=>hI s X _ hi ((fr_put o).mono fun k _ e => .inr (by omega))
 have putIx:∀ {X:World} {s:List α} {c:Code} (o:Obj),Ix c s X→Ix c s (X.putObj (h+1) o):=fun {X s c} o hi=>hIx c s X _ hi ((fr_put o).mono fun k _ e => .inr (by omega))
 refine ⟨h+1,[{ target := .collected h,args:=#[] }],V,{ target := .fn (.func gf) lb,args:=pa++#[.func (.yield (h+1)) #[] #[]] },V,gf,pa++#[.func (.yield (h+1)) #[] #[]]++lb,V,?_,?_,?_,?_,fun _=>h1,?_⟩
 · have e:=run_enterLoop_outer (P:=Tryz.prog) (w:=w) fn a.tmps ps assign body
   rw [←hh] at e
   exact e
 · simp only [resolve,hg]
   simp [go_sem]
 · intro f' _;trivial
 · simp [invoke,go_sem,eg]
 · refine (hseq (rc .ready none) (fun pre W=>I pre W∧W.heap[h+1]? = some (.loop (rc .ready none))∧W.heap[h]? = some (.deferred (some [])))
    (fun pre W=>∃ c,Ix c pre W∧W.heap[h+1]? = some (.loop (rc .done (some c)))∧W.heap[h]? = some (.deferred (some [])))
    (fun s X Y hs hf=>⟨hI s X Y hs.1 (wide hf),far hf hZ1 hs.2.1,far hf hZ0 hs.2.2⟩)
    (fun s X Y hs hf=>by
     obtain ⟨c,hc,e1,e2⟩:=hs
     exact ⟨c,hIx c s X Y hc (wide hf),far hf hZ1 e1,far hf hZ0 e2⟩) ?_ ⟨hI _ _ _ h0 hfV,hV1,hV0⟩).mono ?_
   · rintro pre x X ⟨hi,e1,e0⟩ hlen
     have hy:=run_yield (P:=Tryz.prog) (args:=enc x) e1 (by simp [rc,hps])
     have hlt:h+1<X.heap.size:=blk_lt e1
     refine ⟨fn,_,assign,body,hy,roundIn_of_wpIn hfn (wpIn_mono (hround pre x X hlen (by omega)) ?_)⟩
     clear hy
     rintro ee a' W' hp'
     cases ee with
     | exit id=>exact hp'.elim
     | goto t=>exact hp'.elim
     | ret=>exact hp'.elim
     | panic ch=>exact hp'.elim
     | outgrown=>exact hp'.elim
     | normal=>
     obtain ⟨hgx,hbody⟩:=hp'
     have e1':W'.heap[h+1]? = some (.loop (rc .ready none)):=(hgx.below.block _ hlt).trans e1
     have e0':W'.heap[h]? = some (.deferred (some [])):=(hgx.below.block _ (by omega)).trans e0
     refine ⟨_,run_beginRound e1' rfl,?_⟩
     let X2:World:=W'.putObj (h+1) (.loop { rc .ready none with state := .busy })
     have f1:X2.heap[h+1]? = some (.loop { rc .ready none with state := .busy }):=World.putObj_heap_same (blk_lt e1')
     have f0:X2.heap[h]? = some (.deferred (some [])):=(World.putObj_heap_other (by omega)).trans e0'
     have fk:KAll Z b X X2:=(KAll.grown hgx (by omega)).trans (KAll.put _ hZ1 (by omega))
     have hi2:I pre X2:=putI _ (hI _ _ _ hi (fr_grown hgx _))
     -- how a round ends
     have fin:∀ (jump:Option Code) (Y:World),KAll (fun k=>Z k∨h≤k) b X2 Y→∃ V',(Instr.endRound (h+1) jump).run Tryz.prog Y = .ok (.bool jump.isNone) V'∧V'=Y.putObj (h+1) (.loop (rc (if jump.isNone then .ready else .done) jump)) ∧
      V'.heap[h+1]? = some (.loop (rc (if jump.isNone then .ready else .done) jump))∧V'.heap[h]? = some (.deferred (some []))∧KAll Z b X V':=fun jump Y hY=>by
      have y1:=hY.same _ _ (.inr (by omega)) f1
      have y0:=hY.same _ _ (.inr (Nat.le_refl _)) f0
      exact ⟨_,run_endRound jump y1,rfl,World.putObj_heap_same (blk_lt y1),(World.putObj_heap_other (by omega)).trans y0,(fk.trans (hY.mono (fun _ e => .inl e) (Nat.le_refl _))).trans (KAll.put _ hZ1 (by omega))⟩
     refine wpIn_mono (hbody X2 hi2 (by simp [X2]) (fun k hk=>World.putObj_heap_other hk) ⟨_,f1⟩) ?_
     rintro e a3 Y hp
     cases e with
     | normal=>
      obtain ⟨k1,k3⟩:=hp
      obtain ⟨V',hr,rfl,z1,z0,kz⟩:=fin none Y k1
      exact ⟨_,_,hr,.inl ⟨rfl,⟨putI _ k3,z1,z0⟩,kz⟩⟩
     | ret=>
      obtain ⟨k1,k3⟩:=hp
      obtain ⟨V',hr,rfl,z1,z0,kz⟩:=fin (some .ret) Y k1
      exact ⟨_,_,hr,.inr ⟨rfl,⟨.ret,putIx _ k3,z1,z0⟩,kz⟩⟩
     | exit id=>
      obtain ⟨k1,k3⟩:=hp
      obtain ⟨V',hr,rfl,z1,z0,kz⟩:=fin (some (.exit id)) Y k1
      exact ⟨_,_,hr,.inr ⟨rfl,⟨.exit id,putIx _ k3,z1,z0⟩,kz⟩⟩
     | goto t=>
      obtain ⟨k1,k3⟩:=hp
      obtain ⟨V',hr,rfl,z1,z0,kz⟩:=fin (some (.goto t)) Y k1
      exact ⟨_,_,hr,.inr ⟨rfl,⟨.goto t,putIx _ k3,z1,z0⟩,kz⟩⟩
     | panic ch=>exact hp.elim
     | outgrown=>exact hp.elim
   · rintro e Y ⟨⟨v,rfl⟩,(⟨⟨hi,e1,e0⟩,hEY⟩ | ⟨pre,hSp,c,hi,e1,e0⟩)⟩
     · exact ⟨none,_,run_endLoop e1 (by simp [rc]),hdone _ _ (Nat.le_refl _) (putI _ hi) (hE _ _ hEY) ((World.putObj_heap_other (by omega)).trans e0)⟩
     · exact ⟨some c,_,run_endLoop e1 (by simp [rc]),hstop _ c pre _ (Nat.le_refl _) hSp (putIx _ hi) ((World.putObj_heap_other (by omega)).trans e0)⟩
theorem wpIn_overR {α:Type} {enc:α→Array Value} {n:Nat} {g:Operand} {ps:Array Tmp} {assign body:Code} {Q:Exit→Act→World→Prop} {a:Act} {w:World} (h1:1≤n) {gf:Nat} {pa lb:Array Value}
 (hg:a.eval g = .func (.func gf) pa lb) (eg:∀ args w,(callFunc gf args).run Tryz.prog w = .ok (.enter gf args) w) {xf:List α} {b h:Nat} {Z:Nat→Prop} {E:World→Prop} (hh:h=w.heap.size) (hbh:b≤h) (hZ0:¬ Z h) (hZ1:¬ Z (h+1))
 (hseq:∀ r:Loop,SeqZ (n - 1) gf pa lb enc xf b Z E ((w.alloc (.deferred (some []))).alloc (.loop r)) (h+1)) (hE:∀ X o,E X→E (X.putObj (h+1) o)) (hps:∀ x,(enc x).size=ps.size)
 (I:List α→World→Prop) (Ix:Code→List α→World→Prop) (hI:Stab (fun k=>Z k∨h≤k) I) (hIx:∀ c,Stab (fun k=>Z k∨h≤k) (Ix c)) (h0:I [] w)
 (hround:∀ (l:Nat) (pre:List α) (x:α) (W:World),pre++[x] <+: xf→h+2≤W.heap.size→assign.wpIn (Fence.wide.inRound l) (n - 1 - 1) Tryz.prog (Exit.then (fun a' W'=>Grown W W'∧∀ X,I pre X→X.heap.size=W'.heap.size→(∀ k,k≠h+1→X.heap[k]? = W'.heap[k]?)→body.wpIn (Fence.wide.inRound l) (n - 1 - 1) Tryz.prog (wPost (fun k=>Z k∨h≤k) b I Ix (pre++[x]) X) a' X) (fun _ _ _=>False)) { tmps:=(ps.zip (enc x)).foldl (fun t (p,v)=>t.setIfInBounds p v) a.tmps,defers:=[] } W)
 (hdone:∀ (D:Nat) (W:World),h≤D→I xf W→E W→W.heap[D]? = some (.deferred (some []))→Q .normal { a with defers := { target := .collected D,args:=#[] } :: a.defers } W)
 (hstop:∀ (D:Nat) (c:Code) (pre:List α) (W:World),h≤D→(pre <+: xf∧pre≠[])→Ix c pre W→W.heap[D]? = some (.deferred (some []))→c.wpIn Fence.wide n Tryz.prog Q { a with defers := { target := .collected D,args:=#[] } :: a.defers } W) :
 (Code.rangeFunc g ps assign body).wpIn Fence.wide n Tryz.prog Q a w:=
 wpIn_overQ h1 hg eg hh hbh hZ0 hZ1 hseq hE hps I Ix hI hIx h0 (fun pre x W hp hW=>wpIn_mono (hround (h+1) pre x W hp hW) fun e a' W' hq=>by
  cases e with
  | normal=>exact ⟨hq.1,fun X h1 h2 h3 _=>hq.2 X h1 h2 h3⟩
  | exit id=>exact hq
  | goto t=>exact hq
  | ret=>exact hq
  | panic ch=>exact hq
  | outgrown=>exact hq) hdone hstop
theorem wpIn_overZ {α:Type} {enc:α→Array Value} {n:Nat} {g:Operand} {ps:Array Tmp} {assign body:Code} {Q:Exit→Act→World→Prop} {a:Act} {w:World} (h1:1≤n) {gf:Nat} {pa lb:Array Value}
 (hg:a.eval g = .func (.func gf) pa lb) (eg:∀ args w,(callFunc gf args).run Tryz.prog w = .ok (.enter gf args) w) {xf:List α} {b h:Nat} {Z:Nat→Prop} {E:World→Prop} (hh:h=w.heap.size) (hbh:b≤h) (hZ0:¬ Z h) (hZ1:¬ Z (h+1))
 (hseq:∀ r:Loop,SeqZ (n - 1) gf pa lb enc xf b Z E ((w.alloc (.deferred (some []))).alloc (.loop r)) (h+1)) (hE:∀ X o,E X→E (X.putObj (h+1) o)) (hps:∀ x,(enc x).size=ps.size)
 (I:List α→World→Prop) (Ix:Code→List α→World→Prop) (hI:Stab (fun k=>Z k∨h≤k) I) (hIx:∀ c,Stab (fun k=>Z k∨h≤k) (Ix c)) (h0:I [] w) (a₁:α→World→Act) (gw:α→World→World) (hgw:∀ x W,Grown W (gw x W))
 (hassign:∀ (l:Nat) (x:α) (W:World) (K:Act→World→Prop),K (a₁ x W) (gw x W)→assign.wpIn (Fence.wide.inRound l) (n - 1 - 1) Tryz.prog (Exit.then K (fun _ _ _=>False)) { tmps:=(ps.zip (enc x)).foldl (fun t (p,v)=>t.setIfInBounds p v) a.tmps,defers:=[] } W)
 (hbody:∀ (l:Nat) (pre:List α) (x:α) (W X:World),I pre X→pre++[x] <+: xf→h+2≤W.heap.size→X.heap.size=(gw x W).heap.size→(∀ k,k≠h+1→X.heap[k]? = (gw x W).heap[k]?)→body.wpIn (Fence.wide.inRound l) (n - 1 - 1) Tryz.prog (wPost (fun k=>Z k∨h≤k) b I Ix (pre++[x]) X) (a₁ x W) X)
 (hdone:∀ (D:Nat) (W:World),h≤D→I xf W→E W→W.heap[D]? = some (.deferred (some []))→Q .normal { a with defers := { target := .collected D,args:=#[] } :: a.defers } W)
 (hstop:∀ (D:Nat) (c:Code) (pre:List α) (W:World),h≤D→(pre <+: xf∧pre≠[])→Ix c pre W→W.heap[D]? = some (.deferred (some []))→c.wpIn Fence.wide n Tryz.prog Q { a with defers := { target := .collected D,args:=#[] } :: a.defers } W) :
 (Code.rangeFunc g ps assign body).wpIn Fence.wide n Tryz.prog Q a w:=
 wpIn_overR h1 hg eg hh hbh hZ0 hZ1 hseq hE hps I Ix hI hIx h0 (fun l pre x W hpre hW=>hassign l x W _ ⟨hgw x W,fun X hX hs hk=>hbody l pre x W X hX hpre hW hs hk⟩) hdone hstop
theorem yield_wide {m m' l l1:Nat} {args:Array Value} {W:World} {R:Ending→World→Prop} (h:YieldAt Fence.wide m Tryz.prog l args W R):YieldAt (Fence.wide.inRound l1) m' Tryz.prog l args W R:=by
 obtain ⟨fn,tmps,assign,body,hy,hR⟩:=h
 exact ⟨fn,tmps,assign,body,hy,hR.1,fun c cs _=>hR.2 c cs (room_wide _)⟩
def fs1 (x:Stp):List Value:=[.int .i64 x.r,.int .i64 x.d,.int .i64 x.l,.int .i64 x.t,.int .i64 x.a,.int .i64 x.b]
end Go.Proofs
