/-
  Several texts in one (Eb Ea Ec Qc Ed).
-/
import Derived.RangeFuncNested
import Derived.RangeFuncBound
import Derived.RangeFuncCalls
import Derived.RangeFuncLeaves
import Derived.Shelf.Abstract
import Derived.Shelf.RegionOpen
import Derived.WalkKit
import Derived.WalkSpells
import Derived.WalkLawsBesides
import Derived.OwnWalkIn
import Derived.TacticsInMore
import Derived.LoopNIn
import Derived.LoopIn
import Derived.BigQuiet
import Derived.RegionIn
import Derived.Deep.QuietTactic
import Derived.Deep.RegionWith
import Derived.Lib.OthersKept
import Derived.Maps.AppendAt
import Derived.Lib.SmallJoins
import Derived.Shelf.SlSortCmp.QuietGrown
import Derived.Maps.Own
import Derived.Maps.OwnSet
import Derived.Maps.Views
import Derived.Test.YtcfcjljapamcoaaGreatDoorMpdx
import Derived.Test.YtcfcjljapamcoaaGreatDoorMpcx
import Derived.Test.YtcfcjljapamcoaaGreatDoorWcx
namespace Go.Proofs
open Go.RowKit Go.Shelf
set_option maxRecDepth 100000
attribute [local go_sem] Oper.semAt_some
attribute [local go_sem ↓] Go.wp_at_zero Go.wp_at_succ
def heldR (v:Value):Option (DataW Value × List MemPlace):=some (.held v,[])
def InI (k:Int):Prop := -9223372036854775808≤k∧k≤9223372036854775807
def IMap (W:World) (m N:Nat) (f:Int→Option Value):Prop:=
 ∃ (n:Nat) (D:DataW Value),W.ownsMap Tryz.prog 3 heldR m n D∧n≤N∧∀ k:Int,Maps.has D (.int .i64 k)=(f k).isSome∧∀ v,f k=some v→∀ z,D.atKey (.int .i64 k) z = .held v
theorem key3:Maps.Keyed Tryz.prog 3:=Maps.int_keyed Tryz.underlying3
theorem keyI {k:Int} (h:InI k):keyOf Tryz.prog 3 (.int .i64 k)=some (.int .i64 k):=Maps.keyOf_int_mk Tryz.underlying3 (by
 obtain ⟨h1,h2⟩:=h
 simp [Lit.wf,IntKind.min,IntKind.max,IntKind.bits,IntKind.signed]
 omega)
theorem IMap.made (w:World):IMap (w.alloc (.map #[] 0)) w.heap.size 0 (fun _=>none):=
 ⟨0,.map [],World.ownsMap_made w _ _ _,Nat.le_refl _,fun k=>⟨by simp [Maps.has],fun v h=>by cases h⟩⟩
theorem IMap.kept {W W':World} {m N:Nat} {f:Int→Option Value} (h:IMap W m N f) (hm:∀ o,W.heap[m]? = some o→W'.heap[m]? = some o):IMap W' m N f:=by
 obtain ⟨n,D,⟨es,c,hb,hF⟩,hn,hK⟩:=h
 exact ⟨n,D,⟨es,c,hm _ hb,hF⟩,hn,hK⟩
theorem IMap.mono {W:World} {m N N':Nat} {f:Int→Option Value} (h:IMap W m N f) (hn:N≤N'):IMap W m N' f:=by
 obtain ⟨n,D,h1,h2,h3⟩:=h
 exact ⟨n,D,h1,by omega,h3⟩
theorem IMap.isMap {W:World} {m N:Nat} {f:Int→Option Value} (h:IMap W m N f):∃ es c,W.heap[m]? = some (.map es c):=by
 obtain ⟨n,D,⟨es,c,hb,_⟩,_⟩:=h
 exact ⟨es,c,hb⟩
theorem IMap.look {W:World} {m N:Nat} {f:Int→Option Value} (h:IMap W m N f) {t e:TypeId} {z:Value} (ht:Tryz.prog.underlying t=some (.map 3 e)) (hz:(zeroValue e).run Tryz.prog W = .ok z W) {k:Int} (hk:InI k) :
 (Instr.lookup t (.map (some m)) (.int .i64 k) false).run Tryz.prog W = .ok ((f k).getD z) W:=by
 obtain ⟨n,D,hD,_,hK⟩:=h
 obtain ⟨v,ps,hrun,hv⟩:=hD.lookup key3 ht hz (zd := .held z) (zp:=[]) rfl (keyI hk)
 rw [hrun]
 unfold heldR at hv
 simp only [Option.some.injEq,Prod.mk.injEq] at hv
 cases hf:f k with
 | none=>
  have h1:=(hK k).1
  rw [hf] at h1
  rw [Maps.atKey_of_not_has h1] at hv
  injection hv.1 with e1
  rw [e1];rfl
 | some x=>
  rw [(hK k).2 x hf] at hv
  injection hv.1 with e1
  rw [e1];rfl
theorem IMap.look_ok {W:World} {m N:Nat} {f:Int→Option Value} (h:IMap W m N f) {t e:TypeId} {z:Value} (ht:Tryz.prog.underlying t=some (.map 3 e)) (hz:(zeroValue e).run Tryz.prog W = .ok z W) {k:Int} (hk:InI k) :
 (Instr.lookup t (.map (some m)) (.int .i64 k) true).run Tryz.prog W = .ok (.tuple #[(f k).getD z,.bool (f k).isSome]) W:=by
 obtain ⟨n,D,hD,_,hK⟩:=h
 obtain ⟨v,ps,hrun,hv⟩:=hD.look_ok key3 ht hz (zd := .held z) (zp:=[]) rfl (keyI hk)
 rw [hrun,(hK k).1]
 unfold heldR at hv
 simp only [Option.some.injEq,Prod.mk.injEq] at hv
 cases hf:f k with
 | none=>
  have h1:=(hK k).1
  rw [hf] at h1
  rw [Maps.atKey_of_not_has h1] at hv
  injection hv.1 with e1
  rw [e1];rfl
 | some x=>
  rw [(hK k).2 x hf] at hv
  injection hv.1 with e1
  rw [e1];rfl
def updM (f:Int→Option Value) (k:Int) (v:Value):Int→Option Value:=fun x=>if x=k then some v else f x
theorem IMap.store {W:World} {m N:Nat} {f:Int→Option Value} (h:IMap W m N f) (hN:N<1000000000000000000) {t e:TypeId} (ht:Tryz.prog.underlying t=some (.map 3 e)) {k:Int} (hk:InI k) (v:Value) :
 ∃ w',(Instr.mapUpdate t (.map (some m)) (.int .i64 k) v).run Tryz.prog W = .ok () w'∧IMap w' m (N+1) (updM f k v)∧W.mapTurned w' m:=by
 obtain ⟨n,D,hD,hn,hK⟩:=h
 obtain ⟨w',hrun,hD',ht⟩:=hD.store key3 ht (by unfold maxLen;omega) (keyI hk) (d := .held v) (ps:=[]) rfl
 have hmap:=hD.isMap
 have hkl:WideAt.IsKeyLit (.int .i64 k):=by simp [WideAt.IsKeyLit]
 refine ⟨w',hrun,⟨n+1,_,hD',by omega,fun x => ?_⟩,ht⟩
 by_cases hx:x=k
 · subst hx
   have e1:updM f x v x=some v:=by simp [updM]
   rw [e1,Maps.has_put_same hmap hkl]
   refine ⟨rfl,fun u hu z => ?_⟩
   cases hu
   exact Maps.atKey_put_same hmap hkl _ _
 · have e1:updM f k v x=f x:=by simp [updM,hx]
   have hne:(Lit.int .i64 x)≠Lit.int .i64 k:=fun e=>hx (by injection e)
   rw [e1,Maps.has_put_other hne]
   refine ⟨(hK x).1,fun u hu z => ?_⟩
   rw [Maps.atKey_put_other hne]
   exact (hK x).2 u hu z
theorem turned_other {W W':World} {m b:Nat} (h:W.mapTurned W' m) (hb:b≠m):W'.heap[b]? = W.heap[b]? := by
 obtain ⟨es,clock,es',clock',h1,rfl⟩:=h
 exact ChangeMaps.heap_setBlock_other h1 _ hb
theorem turned_below {W W':World} {m n:Nat} (h:W.mapTurned W' m) (hn:n≤m):Below n W W':=by
 have hg:=h.grown
 obtain ⟨es,clock,es',clock',h1,_⟩:=h
 exact (Below.refl _ W).grown hg (Nat.le_trans hn (Nat.le_of_lt (Array.getElem?_eq_some_iff.1 h1).1)) (fun k hk=>by cases hk;exact hn)
def touchF:Nat→List (Int × Int)→List (Int × Int)→Bool
 | 0,_,_=>false
 | _+1,[],_=>false
 | _+1,_::_,[]=>false
 | f+1,x::a,y::b=>if x.2<y.1 then touchF f a (y::b) else if y.2<x.1 then touchF f (x::a) b else true
def touchL (a b:List (Int × Int)):Bool:=touchF (a.length+b.length) a b
theorem touchF_same:∀ (f g:Nat) (a b:List (Int × Int)),a.length+b.length≤f→a.length+b.length≤g→touchF f a b=touchF g a b
 | 0,g,a,b,h,_=>by
  have ha:a=[]:=List.eq_nil_of_length_eq_zero (by omega)
  subst ha
  cases g <;> rfl
 | f+1,g,[],b,_,_=>by cases g <;> rfl
 | f+1,g,x::a,[],_,_=>by cases g <;> rfl
 | f+1,0,x::a,y::b,_,h=>by simp at h
 | f+1,g+1,x::a,y::b,h1,h2=>by
  simp only [List.length_cons] at h1 h2
  have e1:=touchF_same f g a (y::b) (by simp;omega) (by simp;omega)
  have e2:=touchF_same f g (x::a) b (by simp;omega) (by simp;omega)
  simp only [touchF,e1,e2]
theorem drop_rg' {l:List (Int × Int)} {k:Nat} (hk:k<l.length):l.drop k=rg l k::l.drop (k+1):=by
 rw [rg_lt hk];exact List.drop_eq_getElem_cons hk
theorem touch_nil_left (b:List (Int × Int)):touchL [] b=false:=by
 unfold touchL
 cases b.length <;> rfl
theorem touch_nil_right (a:List (Int × Int)):touchL a []=false:=by
 unfold touchL
 cases a <;> rfl
theorem touch_cons (x y:Int × Int) (a b:List (Int × Int)):touchL (x::a) (y::b)=if x.2<y.1 then touchL a (y::b) else if y.2<x.1 then touchL (x::a) b else true:=by
 unfold touchL
 rw [touchF_same ((x::a).length+(y::b).length) (a.length+b.length+1+1) _ _ (Nat.le_refl _) (by simp;omega)]
 rw [touchF]
 rw [touchF_same (a.length+b.length+1) (a.length+(y::b).length) a (y::b) (by simp;omega) (Nat.le_refl _)]
 rw [touchF_same (a.length+b.length+1) ((x::a).length+b.length) (x::a) b (by simp;omega) (Nat.le_refl _)]
set_option maxHeartbeats 2000000 in
theorem touch_any (va vb:Value) (a b:List (Int × Int)) (w:World) (ha:Rs w va a) (hb:Rs w vb b) (hna:a.length≤1000000) (hnb:b.length≤1000000) :
 Calls Tryz.prog 211 #[va,vb] w fun e w'=>e = .returned (.bool (touchL a b))∧Grown w w':=by
 obtain ⟨A,ca,rfl,_,h1⟩:=ha
 obtain ⟨B,cb,rfl,_,h2⟩:=hb
 obtain ⟨n,hnn⟩:∃ n,a.length=n:=⟨_,rfl⟩
 obtain ⟨m,hmm⟩:∃ m,b.length=m:=⟨_,rfl⟩
 have HA:Hid (a.length=n):=hnn
 have HB:Hid (b.length=m):=hmm
 rw [hnn] at hna ⊢
 rw [hmm] at hnb ⊢
 obtain ⟨r,hr⟩:∃ r:Bool,touchL a b=r:=⟨_,rfl⟩
 have HR:Hid (touchL (a.drop 0) (b.drop 0)=r):=hr
 have H1:Hid (a=[]∨∃ g o,A=some ⟨g,o,none⟩∧Reads w g o a):=h1
 have H2:Hid (b=[]∨∃ g o,B=some ⟨g,o,none⟩∧Reads w g o b):=h2
 rw [hr]
 clear hr h1 h2 hnn hmm
 have hnI:(n:Int)≤1000000:=by omega
 have hmI:(m:Int)≤1000000:=by omega
 go_enter Tryz.func211,Tryz.ntmps211
 go_wp2
 go_loopw [5,6] (fun vi vj wr=>∃ i j:Nat,vi = .int .i64 i∧vj = .int .i64 j∧i≤n∧j≤m∧Hid (touchL (a.drop i) (b.drop j)=r)∧Grown w wr) (fun vi vj _=>(n - (intOf vi).toNat)+(m - (intOf vj).toNat))
 case atStart=>exact ⟨0,0,rfl,rfl,by omega,by omega,HR,Grown.refl _⟩
 case round=>
  obtain ⟨i,j,rfl,rfl,hi,hj,hT,hG⟩:=hrel
  clear HR
  have hi0:(0:Int)≤(i:Int):=by omega
  have hj0:(0:Int)≤(j:Int):=by omega
  by_cases hli:i<n
  · have hli':(i:Int)<(n:Int):=by omega
    by_cases hlj:j<m
    · as_aux_lemma=>
       have hlj':(j:Int)<(m:Int):=by omega
       have hka:i<a.length:=by rw [HA.out];exact hli
       have hkb:j<b.length:=by rw [HB.out];exact hlj
       obtain ⟨g1,o1,hA1,hr1⟩:=H1.out.resolve_left (fun e=>by rw [e] at hka;simp at hka)
       obtain ⟨g2,o2,hB1,hr2⟩:=H2.out.resolve_left (fun e=>by rw [e] at hkb;simp at hkb)
       subst hA1
       subst hB1
       obtain ⟨p,q,hpq⟩:∃ p q:Int,rg a i=(p,q):=⟨_,_,rfl⟩
       obtain ⟨s,t,hst⟩:∃ s t:Int,rg b j=(s,t):=⟨_,_,rfl⟩
       have x1:=hr1 i hka
       have x2:=hr2 j hkb
       have hT2:=hT.out
       rw [drop_rg' hka,drop_rg' hkb,hpq,hst,touch_cons] at hT2
       rw [hpq] at x1
       rw [hst] at x2
       have cp:=hG.cellv x1.1
       have cq:=hG.cellv x1.2
       have cs:=hG.cellv x2.1
       have ct:=hG.cellv x2.2
       simp only at cp cq cs ct hT2
       clear x1 x2 hr1 hr2
       by_cases hc1:q<s
       · as_aux_lemma=>
          have HT2:Hid (touchL (a.drop (i+1)) (b.drop j)=r):=by rw [if_pos hc1] at hT2;rw [drop_rg' hkb,hst];exact hT2
          clear hT2 hT hpq hst
          go_wp2
          go_quiet (fail)
          go_wp2
          exact ⟨⟨i+1,j,by go_num,rfl,by omega,by omega,HT2,(by first | exact hG.drewN _ | exact (hG.drewN _).drewN _)⟩,by simp [intOf];omega⟩
       · by_cases hc2:t<p
         · as_aux_lemma=>
            have HT2:Hid (touchL (a.drop i) (b.drop (j+1))=r):=by rw [if_neg hc1,if_pos hc2] at hT2;rw [drop_rg' hka,hpq];exact hT2
            clear hT2 hT hpq hst
            go_wp2
            go_quiet (fail)
            go_wp2
            go_quiet (fail)
            go_wp2
            exact ⟨⟨i,j+1,rfl,by go_num,by omega,by omega,HT2,(by first | exact hG.drewN _ | exact (hG.drewN _).drewN _)⟩,by simp [intOf];omega⟩
         · as_aux_lemma=>
            have HT2:Hid (r=true):=by rw [if_neg hc1,if_neg hc2] at hT2;exact hT2.symm
            clear hT2 hT hpq hst
            go_wp2
            go_quiet (fail)
            go_wp2
            go_quiet (fail)
            go_wp2
            go_ret
            have hrt:=HT2.out
            exact ⟨by first | rfl | (rw [hrt];rfl),(by first | exact hG.drewN _ | exact (hG.drewN _).drewN _)⟩
    · as_aux_lemma=>
       have hge:¬ (j:Int)<(m:Int):=by omega
       have HT2:Hid (r=false):=by
        have:=hT.out
        rw [(List.drop_eq_nil_of_le (by rw [HB.out];omega):b.drop j=[]),touch_nil_right] at this
        exact this.symm
       clear hT
       go_wp2
       go_ret
       have hrt:=HT2.out
       exact ⟨by first | rfl | (rw [hrt];rfl),hG⟩
  · as_aux_lemma=>
     have hge:¬ (i:Int)<(n:Int):=by omega
     have HT2:Hid (r=false):=by
      have:=hT.out
      rw [(List.drop_eq_nil_of_le (by rw [HA.out];omega):a.drop i=[]),touch_nil_left] at this
      exact this.symm
     clear hT
     go_wp2
     go_ret
     have hrt:=HT2.out
     exact ⟨by first | rfl | (rw [hrt];rfl),hG⟩
structure Pb where
 r:Nat
 us:List (Int × Int)
 wt:Int
structure St where
 ws:List Int
 aq:List Int
 bk:List Pb
def at0 (l:List Int) (i:Nat):Int:=l[i]?.getD 0
theorem at0_lt {l:List Int} {i:Nat} (h:i<l.length):at0 l i=l[i]:=by simp [at0,h]
theorem at0_set {l:List Int} {i j:Nat} {x:Int} (h:i<l.length):at0 (l.set i x) j=if j=i then x else at0 l j:=by
 unfold at0
 rw [List.getElem?_set]
 by_cases e:i=j
 · subst e;simp [h]
 · simp [e,Ne.symm e]
def fstS (rs:List Rl) (n:Nat):List (Int × Int):=(rs[n]?.map fun r=>keyAt r.key 0).getD []
def usAt (bk:List Pb) (i:Nat):List (Int × Int):=(bk[i]?.map Pb.us).getD []
def leanL (rs:List Rl) (bk:List Pb) (n:Nat):List Nat:=(List.range bk.length).filter fun i=>touchL (fstS rs n) (usAt bk i)
def bump (w:Int) (st:St) (i:Nat):St:=
 match st.bk[i]? with
 | none=>st
 | some b=>if b.wt<w then ⟨st.ws,st.aq.set b.r (at0 st.aq b.r+(w - b.wt)),st.bk.set i ⟨b.r,b.us,w⟩⟩ else st
def liftP (rs:List Rl) (n:Nat) (st:St):St:=(leanL rs st.bk n).foldl (bump (at0 st.aq n)) ⟨st.ws.set n (at0 st.aq n),st.aq,st.bk⟩
def look (st:St):Nat→Nat→Option Nat
 | 0,_=>none
 | k+1,n=>if 64<at0 st.aq n∨at0 st.ws n<at0 st.aq n then some n else look st k (n+1)
def settleP (rs:List Rl) (last:Nat):Nat→St→Bool × St
 | 0,st=>(true,st)
 | f+1,st=>match look st (last+1) 0 with
  | none=>(true,st)
  | some n=>if 64<at0 st.aq n then (false,st) else settleP rs last f (liftP rs n st)
def wsum:List Pb→Nat→Int
 | [],_=>0
 | b::l,n=>(if b.r=n then b.wt else 0)+wsum l n
theorem wsum_append (l k:List Pb) (n:Nat):wsum (l++k) n=wsum l n+wsum k n:=by
 induction l with
 | nil=>simp [wsum]
 | cons b l ih=>simp only [List.cons_append,wsum,ih];omega
theorem wsum_set:∀ (l:List Pb) (i n:Nat) (b:Pb) (w:Int),l[i]? = some b→wsum (l.set i ⟨b.r,b.us,w⟩) n=wsum l n+(if b.r=n then w - b.wt else 0)
 | [],i,n,b,w,h=>by simp at h
 | c::l,0,n,b,w,h=>by
  simp at h;subst h
  simp only [List.set_cons_zero,wsum]
  split <;> omega
 | c::l,i+1,n,b,w,h=>by
  simp at h
  simp only [List.set_cons_succ,wsum,wsum_set l i n b w h]
  omega
theorem wsum_bound:∀ (l:List Pb) (n:Nat),(∀ b∈l,1≤b.wt∧b.wt≤64)→0≤wsum l n∧wsum l n≤64*l.length
 | [],n,_=>by simp [wsum]
 | b::l,n,h=>by
  have h1:=wsum_bound l n (fun x hx=>h x (List.mem_cons_of_mem _ hx))
  have h2:=h b List.mem_cons_self
  simp only [wsum,List.length_cons]
  split <;> omega
structure OkSt (cs:List Int) (us:List (List (Int × Int))) (st:St):Prop where
 n:cs.length≤256
 wl:st.ws.length=cs.length
 al:st.aq.length=cs.length
 wb:∀ i,i<cs.length→1≤at0 st.ws i∧at0 st.ws i≤64
 pb:∀ b∈st.bk,b.r<cs.length∧1≤b.wt∧b.wt≤64
 pl:st.bk.length≤4096
 cb:∀ i,i<cs.length → -100≤at0 cs i∧at0 cs i≤100
 asum:∀ i,i<cs.length→at0 st.aq i=at0 cs i+wsum st.bk i
 uss:st.bk.map Pb.us=us
theorem OkSt.ab {cs:List Int} {us:List (List (Int × Int))} {st:St} (h:OkSt cs us st) {i:Nat} (hi:i<cs.length) : -100≤at0 st.aq i∧at0 st.aq i≤300000:=by
 have h1:=h.cb i hi
 have h2:=wsum_bound st.bk i (fun b hb=>⟨(h.pb b hb).2.1,(h.pb b hb).2.2⟩)
 have h3:=h.asum i hi
 have h4:=h.pl
 omega
theorem usAt_eq {bk:List Pb} {us:List (List (Int × Int))} (h:bk.map Pb.us=us) (i:Nat):usAt bk i=(us[i]?).getD []:=by
 subst h
 simp [usAt]
theorem leanL_eq {rs:List Rl} {bk bk':List Pb} (h:bk.map Pb.us=bk'.map Pb.us) (n:Nat):leanL rs bk n=leanL rs bk' n:=by
 have hl:bk.length=bk'.length:=by simpa using congrArg List.length h
 unfold leanL
 rw [hl]
 congr 1
 funext i
 rw [usAt_eq h,usAt_eq rfl]
theorem map_us_set {bk:List Pb} {i:Nat} {b:Pb} {w:Int} (h:bk[i]? = some b):(bk.set i ⟨b.r,b.us,w⟩).map Pb.us=bk.map Pb.us:=by
 rw [List.map_set]
 obtain ⟨hi,hb⟩:=List.getElem?_eq_some_iff.1 h
 refine List.ext_getElem (by simp) fun j h1 h2 => ?_
 rw [List.getElem_set]
 split
 · rename_i e;subst e;simp [hb]
 · rfl
theorem OkSt.bump {cs:List Int} {us:List (List (Int × Int))} {st:St} (h:OkSt cs us st) (w:Int) (i:Nat) (hw:1≤w) (hw2:w≤64):OkSt cs us (bump w st i):=by
 unfold Go.Proofs.bump
 cases hb:st.bk[i]? with
 | none=>exact h
 | some b=>
  simp only
  have hm:b∈st.bk:=List.mem_of_getElem? hb
  have hpb:=h.pb b hm
  by_cases hlt:b.wt<w
  · rw [if_pos hlt]
    have hbr:b.r<st.aq.length:=by rw [h.al];exact hpb.1
    refine ⟨h.n,h.wl,by simp [h.al],h.wb,fun c hc => ?_,by simpa using h.pl,h.cb,fun j hj => ?_,(map_us_set hb).trans h.uss⟩
    · rcases List.mem_or_eq_of_mem_set hc with h1 | h1
      · exact h.pb c h1
      · subst h1;exact ⟨hpb.1,hw,hw2⟩
    · rw [at0_set hbr,wsum_set _ _ _ _ _ hb]
      have h1:=h.asum j hj
      by_cases e:j=b.r
      · subst e;simp;omega
      · rw [if_neg e,if_neg (fun x=>e x.symm)];omega
  · rw [if_neg hlt];exact h
theorem bump_ws (w:Int) (st:St) (i:Nat):(bump w st i).ws=st.ws:=by
 unfold bump
 split
 · rfl
 · split <;> rfl
theorem bumps_ws (w:Int):∀ (l:List Nat) (st:St),(l.foldl (bump w) st).ws=st.ws
 | [],st=>rfl
 | i::l,st=>by rw [List.foldl_cons,bumps_ws w l,bump_ws]
theorem OkSt.bumps {cs:List Int} {us:List (List (Int × Int))} (w:Int) (hw:1≤w) (hw2:w≤64):∀ (l:List Nat) (st:St),OkSt cs us st→OkSt cs us (l.foldl (Go.Proofs.bump w) st)
 | [],st,h=>h
 | i::l,st,h=>by rw [List.foldl_cons];exact OkSt.bumps w hw hw2 l _ (h.bump w i hw hw2)
theorem OkSt.setw {cs:List Int} {us:List (List (Int × Int))} {st:St} (h:OkSt cs us st) {n:Nat} (hn:n<cs.length) {w:Int} (hw:1≤w) (hw2:w≤64):OkSt cs us ⟨st.ws.set n w,st.aq,st.bk⟩:=by
 refine ⟨h.n,by simp [h.wl],h.al,fun i hi => ?_,h.pb,h.pl,h.cb,h.asum,h.uss⟩
 show 1≤at0 (st.ws.set n w) i∧_
 rw [at0_set (by rw [h.wl];exact hn)]
 split
 · exact ⟨hw,hw2⟩
 · exact h.wb i hi
def tws:List Int→Nat
 | []=>0
 | x::l=>x.toNat+tws l
theorem tws_set:∀ (l:List Int) (n:Nat) (x:Int),n<l.length→tws (l.set n x)+(at0 l n).toNat=tws l+x.toNat
 | [],n,x,h=>by simp at h
 | y::l,0,x,h=>by simp [tws,at0];omega
 | y::l,n+1,x,h=>by
  have:=tws_set l n x (by simpa using h)
  simp [tws,at0] at this ⊢
  omega
theorem tws_bound:∀ (l:List Int),(∀ i,i<l.length→at0 l i≤64)→tws l≤64*l.length
 | [],_=>by simp [tws]
 | x::l,h=>by
  have h1:=tws_bound l (fun i hi=>by have:=h (i+1) (by simpa using hi);simpa [at0] using this)
  have h2:=h 0 (by simp)
  simp [at0] at h2
  simp only [tws,List.length_cons]
  omega
theorem liftP_ws (rs:List Rl) (n:Nat) (st:St):(liftP rs n st).ws=st.ws.set n (at0 st.aq n):=by
 unfold liftP
 rw [bumps_ws]
theorem OkSt.lift {cs:List Int} {us:List (List (Int × Int))} {st:St} (h:OkSt cs us st) (rs:List Rl) {n:Nat} (hn:n<cs.length) (h1:at0 st.ws n<at0 st.aq n) (h2:at0 st.aq n≤64):OkSt cs us (liftP rs n st):=by
 have hw:=(h.wb n hn).1
 exact OkSt.bumps _ (by omega) h2 _ _ (h.setw hn (by omega) h2)
def RAt (w:World) (g o:Nat) (r:Rl):Prop:=∃ av kv pv rv,w.cell? ⟨g,o,none⟩=some (.bool r.bg)∧w.cell? ⟨g,o+1,none⟩=some av∧w.cell? ⟨g,o+2,none⟩=some kv∧w.cell? ⟨g,o+3,none⟩=some pv∧w.cell? ⟨g,o+4,none⟩=some (.bool r.en)∧w.cell? ⟨g,o+5,none⟩=some rv∧w.cell? ⟨g,o+6,none⟩=some (.int .i64 r.cu)∧RR w av kv pv rv r
theorem RAt.below {w w':World} {n g o:Nat} {r:Rl} (h:RAt w g o r) (hb:Below n w w') (hn:w.heap.size≤n):RAt w' g o r:=by
 obtain ⟨av,kv,pv,rv,h0,h1,h2,h3,h4,h5,h6,h7⟩:=h
 exact ⟨av,kv,pv,rv,cell_below h0 hb hn,cell_below h1 hb hn,cell_below h2 hb hn,cell_below h3 hb hn,cell_below h4 hb hn,cell_below h5 hb hn,cell_below h6 hb hn,h7.below hb hn⟩
def PsR (w:World) (v:Value) (rs:List Rl):Prop:=
 ∃ (a:Option Addr) (cap:Nat),v = .slice a rs.length cap∧rs.length≤cap∧(rs=[]∨∃ g o,a=some ⟨g,o,none⟩∧∀ (j:Nat) (hj:j<rs.length),RAt w g (o+j*7) rs[j])
theorem PsR.below {w w':World} {n:Nat} {v:Value} {rs:List Rl} (h:PsR w v rs) (hb:Below n w w') (hn:w.heap.size≤n):PsR w' v rs:=by
 obtain ⟨a,cap,h1,h2,h3 | ⟨g,o,h3,h4⟩⟩:=h
 · exact ⟨a,cap,h1,h2,.inl h3⟩
 · exact ⟨a,cap,h1,h2,.inr ⟨g,o,h3,fun j hj=>(h4 j hj).below hb hn⟩⟩
theorem PsR.grown {w w':World} {v:Value} {rs:List Rl} (h:PsR w v rs) (k:Grown w w'):PsR w' v rs:=h.below k.below (Nat.le_refl _)
def fstR:List Rl→Nat→Int × Int
 | [],_=>(0,0)
 | r::l,k=>if chk r=0 then fstR l (k+1) else ((k:Int),chk r)
def allE (rs:List Rl):Int × Int:=if 256<rs.length then (0,72) else fstR rs 0
theorem drop_rl {rs:List Rl} {k:Nat} (h:k<rs.length):rs.drop k=rs[k]::rs.drop (k+1):=List.drop_eq_getElem_cons h
set_option maxHeartbeats 4000000 in
theorem all_any (v:Value) (rs:List Rl) (w:World) (hT:Tab w) (h:PsR w v rs):Calls Tryz.prog 130 #[.agg #[v]] w fun e w'=>e = .returned (.tuple #[.int .i64 (allE rs).1,.int .i64 (allE rs).2])∧Grown w w':=by
 have HP:Hid (∀ W,Grown w W→PsR W v rs):=fun W hW=>h.grown hW
 have HT:Hid (Tab w):=hT
 obtain ⟨ra,rc,rfl,_,_⟩:=h
 obtain ⟨n,hn⟩:∃ n,rs.length=n:=⟨_,rfl⟩
 have HN:Hid (rs.length=n):=hn
 rw [hn] at HP ⊢
 unfold allE
 rw [hn]
 clear hn hT
 by_cases h1:256<n
 · rw [if_pos h1]
   have h1':(256:Int)<(n:Int):=by omega
   go_enter Tryz.func130,Tryz.ntmps130
   go_wp2
   go_ret2
   exact ⟨rfl,(Grown.refl _).alloc _⟩
 · rw [if_neg h1]
   have h1':¬ (256:Int)<(n:Int):=by omega
   obtain ⟨E,hE⟩:∃ E,fstR rs 0=E:=⟨_,rfl⟩
   have HE:Hid (fstR rs 0=E):=hE
   rw [hE]
   clear hE
   obtain ⟨E1,E2⟩:=E
   simp only
   go_enter Tryz.func130,Tryz.ntmps130
   go_wp2
   go_loopw [14] (fun vi wr=>∃ k:Nat,vi = .int .i64 k∧k≤n∧Hid (fstR (rs.drop k) k=(E1,E2))∧Grown (w.alloc (.cells #[.slice ra n rc] 24)) wr) (fun vi _=>n - (intOf vi).toNat)
   case atStart=>exact ⟨0,rfl,by omega,HE,Grown.refl _⟩
   case round=>
    obtain ⟨k,rfl,hk,hF,hB⟩:=hrel
    have hpos:(0:Int)≤(k:Int):=by omega
    have hkI:(k:Int)≤256:=by omega
    have c0:=hB.cellv (a:=⟨w.heap.size,0,none⟩) (v := .slice ra n rc) (by simp)
    have hG0:Grown w wr:=((Grown.refl w).alloc _).trans hB
    by_cases hlt:k<n
    · have hlt':(k:Int)<(n:Int):=by omega
      have hkl:k<rs.length:=by rw [HN.out];exact hlt
      obtain ⟨a',c',e',_,hP⟩:=HP.out wr hG0
      obtain ⟨g,o,ha',hP2⟩:=hP.resolve_left (fun e=>by rw [e] at hkl;simp at hkl)
      injection e' with e1 e2 e3
      clear e2 e3
      rw [ha'] at e1
      subst e1
      obtain ⟨av,kv,pv,rv,q0,q1,q2,q3,q4,q5,q6,hR⟩:=hP2 k hkl
      have HC:Hid (∀ W,Grown wr W→Calls Tryz.prog 162 #[.agg #[.bool rs[k].bg,av,kv,pv,.bool rs[k].en,rv,.int .i64 rs[k].cu]] W fun e w'=>e = .returned (.int .i64 (chk rs[k]))∧Grown W w'):=fun W hW=>by
       have hg:Grown w W:=hG0.trans hW
       exact check_any rs[k] av kv pv rv W (HT.out.grown hg) (hR.grown hW)
      obtain ⟨a1,a2,a3,rfl⟩:=hR.a.sl
      obtain ⟨b1,b2,b3,rfl⟩:=hR.k.sl
      obtain ⟨p1,p2,p3,rfl⟩:=hR.p.sl
      obtain ⟨r1,r2,r3,rfl⟩:=hR.r.sl
      have hF2:=hF.out
      rw [drop_rl hkl] at hF2
      unfold fstR at hF2
      generalize hch:chk rs[k]=ch at HC hF2
      generalize rs[k].bg=xb at *
      generalize rs[k].en=xe at *
      generalize rs[k].cu=xc at *
      by_cases hq:ch=0
      · have HF2:Hid (fstR (rs.drop (k+1)) (k+1)=(E1,E2)):=by rw [if_pos hq] at hF2;exact hF2
        subst hq
        clear hF2 hF hch hR hP hP2 ha'
        go_wp2_with (go_at_call 162;refine (HC.out _ ((Grown.refl _).alloc _)).mono ?_;rintro e w' ⟨rfl,hb⟩)
        exact ⟨⟨k+1,by go_num,by omega,HF2,(hB.alloc _).trans hb⟩,by simp [intOf];omega⟩
      · rw [if_neg hq] at hF2
        injection hF2 with f1 f2
        subst f1 f2
        have hq':(ch != 0)=true:=by simpa using hq
        clear hF hch hR hP hP2 ha'
        go_wp2_with (go_at_call 162;refine (HC.out _ ((Grown.refl _).alloc _)).mono ?_;rintro e w' ⟨rfl,hb⟩)
        go_ret2
        exact ⟨rfl,((Grown.refl w).alloc _).trans ((hB.alloc _).trans hb)⟩
    · have hge:¬ (k:Int)<(n:Int):=by omega
      have hF2:=hF.out
      rw [List.drop_eq_nil_of_le (by rw [HN.out];omega)] at hF2
      unfold fstR at hF2
      injection hF2 with f1 f2
      subst f1 f2
      clear hF
      go_wp2
      go_ret2
      exact ⟨rfl,hG0⟩
def Turns (B:Nat) (W W':World):Prop:=∀ b,b≠B→W'.heap[b]? = W.heap[b]?
theorem turns_set (W:World) (B j:Nat) (u:Value):Turns B W (W.setCell ⟨B,j,none⟩ u):=fun b hb=>by
 show (W.heap.modify B _)[b]? = _
 rw [Array.getElem?_modify,if_neg (fun e=>hb e.symm)]
theorem set_heap {W:World} {B j:Nat} {u:Value} {cs:Array Value} {t:TypeId} {m:Nat × Nat} (h:W.heap[B]? = some (.cells cs t m)):(W.setCell ⟨B,j,none⟩ u).heap[B]? = some (.cells (cs.setIfInBounds j u) t m):=by
 show (W.heap.modify B _)[B]? = _
 rw [Array.getElem?_modify,if_pos rfl,h]
 rfl
theorem cell_of {W:World} {B j:Nat} {cs:Array Value} {t:TypeId} {m:Nat × Nat} (h:W.heap[B]? = some (.cells cs t m)):W.cell? ⟨B,j,none⟩=cs[j]? := by
 simp [World.cell?,h]
theorem cell_same {W W':World} {B j:Nat} (h:W'.heap[B]? = W.heap[B]?):W'.cell? ⟨B,j,none⟩=W.cell? ⟨B,j,none⟩:=by
 simp [World.cell?,h]
theorem ne_obj {W:World} {a b:Nat} {o o':Obj} (h1:W.heap[a]? = some o) (h2:W.heap[b]? = some o') (hne:o≠o'):a≠b:=fun e=>by
 subst e
 rw [h1] at h2
 injection h2 with h2
 exact hne h2
def UR (W:World) (base:Nat) (v:Value) (l:List (Int × Int)):Prop:=
 ∃ (a:Option Addr) (cap:Nat),v = .slice a l.length cap∧l.length≤cap∧(l=[]∨∃ g o,a=some ⟨g,o,none⟩∧Reads W g o l∧(g<base∨∃ cs m,W.heap[g]? = some (.cells cs 67 m)))
theorem UR.rs {W:World} {base:Nat} {v:Value} {l:List (Int × Int)} (h:UR W base v l):Rs W v l:=by
 obtain ⟨a,cap,h1,h2,h3⟩:=h
 exact ⟨a,cap,h1,h2,h3.imp id fun ⟨g,o,h4,h5,_⟩=>⟨g,o,h4,h5⟩⟩
theorem UR.turn {W W':World} {base B:Nat} {v:Value} {l:List (Int × Int)} {o:Obj} (h:UR W base v l) (hB:base≤B) (ho:W.heap[B]? = some o) (hn:∀ cs m,o ≠ .cells cs 67 m) (k:Turns B W W'):UR W' base v l:=by
 obtain ⟨a,cap,h1,h2,h3⟩:=h
 refine ⟨a,cap,h1,h2,h3.imp id ?_⟩
 rintro ⟨g,o',h4,h5,h6⟩
 have hne:g≠B:=by
  rcases h6 with h6 | ⟨cs,m,h6⟩
  · omega
  · exact ne_obj h6 ho (fun e=>hn cs m e.symm)
 refine ⟨g,o',h4,fun j hj => ?_,h6.imp id fun ⟨cs,m,h6⟩=>⟨cs,m,(k g hne).trans h6⟩⟩
 rw [cell_same (k g hne),cell_same (k g hne)]
 exact h5 j hj
theorem UR.below {W W':World} {base:Nat} {v:Value} {l:List (Int × Int)} (h:UR W base v l) (hb:Below W.heap.size W W'):UR W' base v l:=by
 obtain ⟨a,cap,h1,h2,h3⟩:=h
 refine ⟨a,cap,h1,h2,?_⟩
 by_cases hl:l=[]
 · exact .inl hl
 · obtain ⟨g,o,h4,h5,h6⟩:=h3.resolve_left hl
   have hg:=h5.lt hl
   refine .inr ⟨g,o,h4,h5.below hb hg,h6.imp id fun ⟨cs,m,h6⟩=>⟨cs,m,(hb.block g hg).trans h6⟩⟩
def LnR (W:World) (base ga:Nat) (v:Value) (l:List Nat):Prop:=
 ∃ (a:Option Addr) (cap:Nat),v = .slice a l.length cap∧l.length≤cap∧(l=[]∨∃ g cs m,a=some ⟨g,0,none⟩∧base≤g∧g≠ga∧W.heap[g]? = some (.cells cs 3 m)∧∀ (j:Nat) (h:j<l.length),W.cell? ⟨g,j,none⟩=some (.int .i64 (l[j]:Nat)))
theorem LnR.turn {W W':World} {base ga B:Nat} {v:Value} {l:List Nat} {o:Obj} (h:LnR W base ga v l) (ho:W.heap[B]? = some o) (hn:B=ga∨∀ cs m,o ≠ .cells cs 3 m) (k:Turns B W W'):LnR W' base ga v l:=by
 obtain ⟨a,cap,h1,h2,h3⟩:=h
 refine ⟨a,cap,h1,h2,h3.imp id ?_⟩
 rintro ⟨g,cs,m,h4,h5,h6,h7,h8⟩
 have hne:g≠B:=by
  rcases hn with e | hn
  · rw [e];exact h6
  · exact ne_obj h7 ho (fun e=>hn cs m e.symm)
 refine ⟨g,cs,m,h4,h5,h6,(k g hne).trans h7,fun j hj => ?_⟩
 rw [cell_same (k g hne)]
 exact h8 j hj
theorem LnR.below {W W':World} {base ga:Nat} {v:Value} {l:List Nat} (h:LnR W base ga v l) (hb:Below W.heap.size W W'):LnR W' base ga v l:=by
 obtain ⟨a,cap,h1,h2,h3⟩:=h
 refine ⟨a,cap,h1,h2,h3.imp id ?_⟩
 rintro ⟨g,cs,m,h4,h5,h6,h7,h8⟩
 have hg:g<W.heap.size:=(Array.getElem?_eq_some_iff.1 h7).1
 have he:=hb.block g hg
 exact ⟨g,cs,m,h4,h5,h6,he.trans h7,fun j hj=>(cell_same he).trans (h8 j hj)⟩
def BK (W:World) (base:Nat) (v:Value) (bk:List Pb) (uvs:List Value):Prop:=
 uvs.length=bk.length∧∃ (a:Option Addr) (cap:Nat),v = .slice a bk.length cap∧bk.length≤cap∧(bk=[]∨∃ gb cs,a=some ⟨gb,0,none⟩∧base≤gb∧W.heap[gb]? = some (.cells cs 196 (0,0))∧∀ (j:Nat) (h:j<bk.length) (h':j<uvs.length),W.cell? ⟨gb,j*3,none⟩=some (.int .i64 (bk[j].r:Nat))∧W.cell? ⟨gb,j*3+1,none⟩=some uvs[j]∧W.cell? ⟨gb,j*3+2,none⟩=some (.int .i64 bk[j].wt))
theorem BK.turn {W W':World} {base B:Nat} {v:Value} {bk:List Pb} {uvs:List Value} {o:Obj} (h:BK W base v bk uvs) (ho:W.heap[B]? = some o) (hn:∀ cs m,o ≠ .cells cs 196 m) (k:Turns B W W'):BK W' base v bk uvs:=by
 obtain ⟨h0,a,cap,h1,h2,h3⟩:=h
 refine ⟨h0,a,cap,h1,h2,h3.imp id ?_⟩
 rintro ⟨gb,cs,h4,h5,h6,h7⟩
 have hne:gb≠B:=ne_obj h6 ho (fun e=>hn cs _ e.symm)
 refine ⟨gb,cs,h4,h5,(k gb hne).trans h6,fun j hj hj' => ?_⟩
 rw [cell_same (k gb hne),cell_same (k gb hne),cell_same (k gb hne)]
 exact h7 j hj hj'
theorem BK.below {W W':World} {base:Nat} {v:Value} {bk:List Pb} {uvs:List Value} (h:BK W base v bk uvs) (hb:Below W.heap.size W W'):BK W' base v bk uvs:=by
 obtain ⟨h0,a,cap,h1,h2,h3⟩:=h
 refine ⟨h0,a,cap,h1,h2,h3.imp id ?_⟩
 rintro ⟨gb,cs,h4,h5,h6,h7⟩
 have he:=hb.block gb (Array.getElem?_eq_some_iff.1 h6).1
 refine ⟨gb,cs,h4,h5,he.trans h6,fun j hj hj' => ?_⟩
 rw [cell_same he,cell_same he,cell_same he]
 exact h7 j hj hj'
def wsF (ws:List Int):Int→Option Value:=fun k=>if 0≤k∧k.toNat<ws.length then some (.int .i64 (at0 ws k.toNat)) else none
theorem wsF_nat {ws:List Int} {n:Nat} (h:n<ws.length):wsF ws (n:Int)=some (.int .i64 (at0 ws n)):=by
 unfold wsF
 rw [if_pos ⟨by omega,by simpa using h⟩]
 simp
theorem wsF_set {ws:List Int} {n:Nat} (h:n<ws.length) (x:Int):updM (wsF ws) n (.int .i64 x)=wsF (ws.set n x):=by
 funext k
 unfold updM wsF
 by_cases e:k=(n:Int)
 · subst e
   rw [if_pos rfl,if_pos ⟨by omega,by simpa using h⟩]
   simp [at0_set h]
 · rw [if_neg e]
   simp only [List.length_set]
   by_cases hk:0≤k∧k.toNat<ws.length
   · rw [if_pos hk,if_pos hk,at0_set h,if_neg (by omega)]
   · rw [if_neg hk,if_neg hk]
theorem wsF_snoc (ws:List Int) (x:Int):updM (wsF ws) (ws.length:Nat) (.int .i64 x)=wsF (ws++[x]):=by
 funext k
 unfold updM wsF
 by_cases e:k=(ws.length:Int)
 · subst e
   rw [if_pos rfl,if_pos ⟨by omega,by simp⟩]
   simp [at0]
 · rw [if_neg e]
   by_cases hk:0≤k∧k.toNat<ws.length
   · rw [if_pos hk,if_pos ⟨hk.1,by simp;omega⟩]
     simp [at0,List.getElem?_append_left hk.2]
   · rw [if_neg hk,if_neg (by simp;omega)]
structure Sc (W w0:World) (sp m1 ga m2 N1 N2:Nat) (bv:Value) (uvs:List Value) (rv:Value) (rs:List Rl) (st:St) (ln:Int→Option Value):Prop where
 blk:W.heap[sp]? = some (.cells #[rv,.map (some m1),.slice (some ⟨ga,0,none⟩) st.aq.length st.aq.length,bv,.map (some m2)] 193 (0,0))
 bel:Below w0.heap.size w0 W
 rul:PsR w0 rv rs
 bsp:w0.heap.size≤sp
 bm1:w0.heap.size≤m1
 bga:w0.heap.size≤ga
 bm2:w0.heap.size≤m2
 m12:m1≠m2
 wm:IMap W m1 N1 (wsF st.ws)
 asb:W.heap[ga]? = some (.cells (ints st.aq).toArray 3 (0,0))
 bkr:BK W w0.heap.size bv st.bk uvs
 urs:∀ (j:Nat) (h:j<st.bk.length) (h':j<uvs.length),UR W w0.heap.size uvs[j] st.bk[j].us
 lnm:IMap W m2 N2 ln
 lnr:∀ k v,ln k=some v→0≤k∧LnR W w0.heap.size ga v (leanL rs st.bk k.toNat)
section
variable {W W' w0:World} {sp m1 ga m2 N1 N2:Nat} {bv:Value} {uvs:List Value} {rv:Value} {rs:List Rl} {st:St} {ln:Int→Option Value}
theorem Sc.below (h:Sc W w0 sp m1 ga m2 N1 N2 bv uvs rv rs st ln) (hb:Below W.heap.size W W'):Sc W' w0 sp m1 ga m2 N1 N2 bv uvs rv rs st ln:=by
 have hl:∀ {b:Nat} {o:Obj},W.heap[b]? = some o→W'.heap[b]? = some o:=fun {b o} ho=>(hb.block b (Array.getElem?_eq_some_iff.1 ho).1).trans ho
 exact ⟨hl h.blk,h.bel.trans (hb.mono h.bel.size),h.rul,h.bsp,h.bm1,h.bga,h.bm2,h.m12,h.wm.kept (fun o ho=>hl ho),hl h.asb,h.bkr.below hb,fun j a b=>(h.urs j a b).below hb,h.lnm.kept (fun o ho=>hl ho),fun k v e=>⟨(h.lnr k v e).1,(h.lnr k v e).2.below hb⟩⟩
theorem Sc.grown (h:Sc W w0 sp m1 ga m2 N1 N2 bv uvs rv rs st ln) (hb:Grown W W'):Sc W' w0 sp m1 ga m2 N1 N2 bv uvs rv rs st ln:=h.below hb.below
theorem Sc.mono (h:Sc W w0 sp m1 ga m2 N1 N2 bv uvs rv rs st ln) {K1 K2:Nat} (h1:N1≤K1) (h2:N2≤K2):Sc W w0 sp m1 ga m2 K1 K2 bv uvs rv rs st ln:=
 ⟨h.blk,h.bel,h.rul,h.bsp,h.bm1,h.bga,h.bm2,h.m12,h.wm.mono h1,h.asb,h.bkr,h.urs,h.lnm.mono h2,h.lnr⟩
theorem Sc.turn1 (h:Sc W w0 sp m1 ga m2 N1 N2 bv uvs rv rs st ln) {K:Nat} {ws:List Int} (ht:W.mapTurned W' m1) (hm:IMap W' m1 K (wsF ws)):Sc W' w0 sp m1 ga m2 K N2 bv uvs rv rs ⟨ws,st.aq,st.bk⟩ ln:=by
 obtain ⟨es,c,ho⟩:=h.wm.isMap
 have hk:Turns m1 W W':=fun b hb=>turned_other ht hb
 have e1:sp≠m1:=ne_obj h.blk ho (by simp)
 have e2:ga≠m1:=ne_obj h.asb ho (by simp)
 exact ⟨(hk _ e1).trans h.blk,h.bel.trans ((turned_below ht h.bm1)),h.rul,h.bsp,h.bm1,h.bga,h.bm2,h.m12,hm,(hk _ e2).trans h.asb,h.bkr.turn ho (by simp) hk,fun j a b=>(h.urs j a b).turn h.bm1 ho (by simp) hk,h.lnm.kept (fun o hb=>(hk _ (fun e=>h.m12 e.symm)).trans hb),fun k v e=>⟨(h.lnr k v e).1,(h.lnr k v e).2.turn ho (.inr (by simp)) hk⟩⟩
theorem Sc.turn2 (h:Sc W w0 sp m1 ga m2 N1 N2 bv uvs rv rs st ln) (i:Nat) (x:Int):Sc (W.setCell ⟨ga,i,none⟩ (.int .i64 x)) w0 sp m1 ga m2 N1 N2 bv uvs rv rs ⟨st.ws,st.aq.set i x,st.bk⟩ ln:=by
 have hk:=turns_set W ga i (.int .i64 x)
 obtain ⟨es,c,ho1⟩:=h.wm.isMap
 obtain ⟨es2,c2,ho2⟩:=h.lnm.isMap
 have e1:sp≠ga:=ne_obj h.blk h.asb (by simp)
 have e2:m1≠ga:=ne_obj ho1 h.asb (by simp)
 have e3:m2≠ga:=ne_obj ho2 h.asb (by simp)
 refine ⟨?_,h.bel.setCell h.bga _,h.rul,h.bsp,h.bm1,h.bga,h.bm2,h.m12,h.wm.kept (fun o hb=>(hk _ e2).trans hb),?_,h.bkr.turn h.asb (by simp) hk,fun j a b=>(h.urs j a b).turn h.bga h.asb (by simp) hk,h.lnm.kept (fun o hb=>(hk _ e3).trans hb),fun k v e=>⟨(h.lnr k v e).1,(h.lnr k v e).2.turn h.asb (.inl rfl) hk⟩⟩
 · rw [hk _ e1,h.blk];simp
 · rw [set_heap h.asb]
   congr 2
   simp [ints,List.map_set]
theorem Sc.turn3 (h:Sc W w0 sp m1 ga m2 N1 N2 bv uvs rv rs st ln) {i gb n cap:Nat} (hv:bv = .slice (some ⟨gb,0,none⟩) n cap) {b:Pb} (hb:st.bk[i]? = some b) (x:Int):Sc (W.setCell ⟨gb,i*3+2,none⟩ (.int .i64 x)) w0 sp m1 ga m2 N1 N2 bv uvs rv rs ⟨st.ws,st.aq,st.bk.set i ⟨b.r,b.us,x⟩⟩ ln:=by
 have hk:=turns_set W gb (i*3+2) (.int .i64 x)
 obtain ⟨hi,hbi⟩:=List.getElem?_eq_some_iff.1 hb
 obtain ⟨es,c,ho1⟩:=h.wm.isMap
 obtain ⟨es2,c2,ho2⟩:=h.lnm.isMap
 obtain ⟨k0,a,cp,k1,k2,k3⟩:=h.bkr
 obtain ⟨gb',cs,k4,k5,k6,k7⟩:=k3.resolve_left (fun e=>by rw [e] at hi;simp at hi)
 subst k4
 rw [hv] at k1
 injection k1 with q1 q2 q3
 injection q1 with q1
 injection q1 with q1
 subst q1
 have e1:sp≠gb:=ne_obj h.blk k6 (by simp)
 have e2:m1≠gb:=ne_obj ho1 k6 (by simp)
 have e3:m2≠gb:=ne_obj ho2 k6 (by simp)
 have e4:ga≠gb:=ne_obj h.asb k6 (by simp)
 have hcell:∀ j,(W.setCell ⟨gb,i*3+2,none⟩ (.int .i64 x)).cell? ⟨gb,j,none⟩=if j=i*3+2 then some (.int .i64 x) else W.cell? ⟨gb,j,none⟩:=fun j=>by
  rw [cell_of (set_heap k6),cell_of k6]
  have hsz:i*3+2<cs.size:=by
   have:=(k7 i hi (by omega)).2.2
   rw [cell_of k6] at this
   exact (Array.getElem?_eq_some_iff.1 this).1
  rw [Array.getElem?_setIfInBounds]
  by_cases e:i*3+2=j
  · rw [if_pos e,if_pos e.symm,if_pos (e ▸ hsz)]
  · rw [if_neg e,if_neg (fun q=>e q.symm)]
 have hus:(st.bk.set i ⟨b.r,b.us,x⟩).map Pb.us=st.bk.map Pb.us:=map_us_set hb
 refine ⟨?_,h.bel.setCell k5 _,h.rul,h.bsp,h.bm1,h.bga,h.bm2,h.m12,h.wm.kept (fun o hb=>(hk _ e2).trans hb),(hk _ e4).trans h.asb,⟨by simpa using k0,_,cp,by rw [hv,q2,q3];simp,by simpa using k2,.inr ⟨gb,_,rfl,k5,set_heap k6,fun j hj hj' => ?_⟩⟩,fun j hj hj' => ?_,h.lnm.kept (fun o hb=>(hk _ e3).trans hb),fun k v e=>⟨(h.lnr k v e).1,?_⟩⟩
 · rw [hk _ e1,h.blk]
 · simp only [List.length_set] at hj
   obtain ⟨c1,c2,c3⟩:=k7 j hj hj'
   rw [hcell,hcell,hcell,if_neg (by omega),if_neg (by omega)]
   simp only [List.getElem_set]
   by_cases e:i=j
   · subst e
     rw [hbi] at c1
     rw [if_pos rfl,if_pos rfl]
     exact ⟨c1,c2,rfl⟩
   · rw [if_neg e,if_neg (by omega)]
     exact ⟨c1,c2,c3⟩
 · simp only [List.length_set] at hj
   have:=(h.urs j hj hj').turn k5 k6 (by simp) hk
   simp only [List.getElem_set]
   by_cases e:i=j
   · subst e
     rw [if_pos rfl]
     rw [hbi] at this
     exact this
   · rw [if_neg e];exact this
 · rw [leanL_eq hus]
   exact (h.lnr k v e).2.turn k6 (.inr (by simp)) hk
theorem Sc.turn4 (h:Sc W w0 sp m1 ga m2 N1 N2 bv uvs rv rs st ln) {K n:Nat} {v:Value} (ht:W.mapTurned W' m2) (hm:IMap W' m2 K (updM ln n v)) (hv:LnR W w0.heap.size ga v (leanL rs st.bk n)):Sc W' w0 sp m1 ga m2 N1 K bv uvs rv rs st (updM ln n v):=by
 obtain ⟨es,c,ho⟩:=h.lnm.isMap
 have hk:Turns m2 W W':=fun b hb=>turned_other ht hb
 have e1:sp≠m2:=ne_obj h.blk ho (by simp)
 have e2:ga≠m2:=ne_obj h.asb ho (by simp)
 refine ⟨(hk _ e1).trans h.blk,h.bel.trans ((turned_below ht h.bm2)),h.rul,h.bsp,h.bm1,h.bga,h.bm2,h.m12,h.wm.kept (fun o hb=>(hk _ h.m12).trans hb),(hk _ e2).trans h.asb,h.bkr.turn ho (by simp) hk,fun j a b=>(h.urs j a b).turn h.bm2 ho (by simp) hk,hm,fun k u e => ?_⟩
 unfold updM at e
 by_cases ek:k=(n:Int)
 · rw [if_pos ek] at e
   cases e
   subst ek
   exact ⟨by omega,by simpa using hv.turn ho (.inr (by simp)) hk⟩
 · rw [if_neg ek] at e
   exact ⟨(h.lnr k u e).1,(h.lnr k u e).2.turn ho (.inr (by simp)) hk⟩
end
end Go.Proofs
