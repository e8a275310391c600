/-
  Several texts in one (Gb Ea Ec Gc Eb Qc Ed Eh Ee Ef Ek Ga Ei Ej).
-/
import Derived.RangeFuncNested
import Derived.RangeFuncBound
import Derived.RangeFuncCalls
import Derived.RangeFuncLeaves
import Derived.Shelf.Abstract
import Derived.Shelf.RegionOpen
import Derived.WalkKit
import Derived.WalkSpells
import Derived.WalkLawsBesides
import Derived.OwnWalkIn
import Derived.TacticsInMore
import Derived.LoopNIn
import Derived.LoopIn
import Derived.BigQuiet
import Derived.RegionIn
import Derived.Deep.QuietTactic
import Derived.Deep.RegionWith
import Derived.Lib.OthersKept
import Derived.Maps.AppendAt
import Derived.Lib.SmallJoins
import Derived.Shelf.SlSortCmp.QuietGrown
import Derived.Test.YtcfcjljapamcoabGreatDoorMpdr
import Derived.Test.YtcfcjljapamcoabGreatDoorWar
import Derived.Maps.Own
import Derived.Maps.OwnSet
import Derived.Maps.Views
import Derived.Test.YtcfcjljapamcoabGreatDoorWcr
import Derived.Deep.AppendLies
import Derived.Laws.OwnMore
import Derived.Carry
import Derived.Deep.RegionLaw
namespace Go.Proofs
open Go.RowKit Go.Shelf
set_option maxRecDepth 100000
attribute [local go_sem] Oper.semAt_some
attribute [local go_sem ↓] Go.wp_at_zero Go.wp_at_succ
def bAt (l:List Int) (i:Nat):Int:=l[i]?.getD 0
def touchF:Nat→List (Int × Int)→List (Int × Int)→Bool
 | 0,_,_=>false
 | _+1,[],_=>false
 | _+1,_::_,[]=>false
 | f+1,x::a,y::b=>if x.2<y.1 then touchF f a (y::b) else if y.2<x.1 then touchF f (x::a) b else true
def touchL (a b:List (Int × Int)):Bool:=touchF (a.length+b.length) a b
theorem touchF_same:∀ (f g:Nat) (a b:List (Int × Int)),a.length+b.length≤f→a.length+b.length≤g→touchF f a b=touchF g a b
 | 0,g,a,b,h,_=>by
  have ha:a=[]:=List.eq_nil_of_length_eq_zero (by omega)
  subst ha
  cases g <;> rfl
 | f+1,g,[],b,_,_=>by cases g <;> rfl
 | f+1,g,x::a,[],_,_=>by cases g <;> rfl
 | f+1,0,x::a,y::b,_,h=>by simp at h
 | f+1,g+1,x::a,y::b,h1,h2=>by
  simp only [List.length_cons] at h1 h2
  have e1:=touchF_same f g a (y::b) (by simp;omega) (by simp;omega)
  have e2:=touchF_same f g (x::a) b (by simp;omega) (by simp;omega)
  simp only [touchF,e1,e2]
theorem drop_rg' {l:List (Int × Int)} {k:Nat} (hk:k<l.length):l.drop k=rg l k::l.drop (k+1):=by
 rw [rg_lt hk];exact List.drop_eq_getElem_cons hk
theorem touch_nil_left (b:List (Int × Int)):touchL [] b=false:=by
 unfold touchL
 cases b.length <;> rfl
theorem touch_nil_right (a:List (Int × Int)):touchL a []=false:=by
 unfold touchL
 cases a <;> rfl
theorem touch_cons (x y:Int × Int) (a b:List (Int × Int)):touchL (x::a) (y::b)=if x.2<y.1 then touchL a (y::b) else if y.2<x.1 then touchL (x::a) b else true:=by
 unfold touchL
 rw [touchF_same ((x::a).length+(y::b).length) (a.length+b.length+1+1) _ _ (Nat.le_refl _) (by simp;omega)]
 rw [touchF]
 rw [touchF_same (a.length+b.length+1) (a.length+(y::b).length) a (y::b) (by simp;omega) (Nat.le_refl _)]
 rw [touchF_same (a.length+b.length+1) ((x::a).length+b.length) (x::a) b (by simp;omega) (Nat.le_refl _)]
set_option maxHeartbeats 2000000 in
theorem touch_any (va vb:Value) (a b:List (Int × Int)) (w:World) (ha:Rs w va a) (hb:Rs w vb b) (hna:a.length≤1000000) (hnb:b.length≤1000000) :
 Calls Tryz.prog 145 #[va,vb] w fun e w'=>e = .returned (.bool (touchL a b))∧Grown w w':=by
 obtain ⟨A,ca,rfl,_,h1⟩:=ha
 obtain ⟨B,cb,rfl,_,h2⟩:=hb
 obtain ⟨n,hnn⟩:∃ n,a.length=n:=⟨_,rfl⟩
 obtain ⟨m,hmm⟩:∃ m,b.length=m:=⟨_,rfl⟩
 have HA:Hid (a.length=n):=hnn
 have HB:Hid (b.length=m):=hmm
 rw [hnn] at hna ⊢
 rw [hmm] at hnb ⊢
 obtain ⟨r,hr⟩:∃ r:Bool,touchL a b=r:=⟨_,rfl⟩
 have HR:Hid (touchL (a.drop 0) (b.drop 0)=r):=hr
 have H1:Hid (a=[]∨∃ g o,A=some ⟨g,o,none⟩∧Reads w g o a):=h1
 have H2:Hid (b=[]∨∃ g o,B=some ⟨g,o,none⟩∧Reads w g o b):=h2
 rw [hr]
 clear hr h1 h2 hnn hmm
 have hnI:(n:Int)≤1000000:=by omega
 have hmI:(m:Int)≤1000000:=by omega
 go_enter Tryz.func145,Tryz.ntmps145
 go_wp2
 go_loopw [5,6] (fun vi vj wr=>∃ i j:Nat,vi = .int .i64 i∧vj = .int .i64 j∧i≤n∧j≤m∧Hid (touchL (a.drop i) (b.drop j)=r)∧Grown w wr) (fun vi vj _=>(n - (intOf vi).toNat)+(m - (intOf vj).toNat))
 case atStart=>exact ⟨0,0,rfl,rfl,by omega,by omega,HR,Grown.refl _⟩
 case round=>
  obtain ⟨i,j,rfl,rfl,hi,hj,hT,hG⟩:=hrel
  clear HR
  have hi0:(0:Int)≤(i:Int):=by omega
  have hj0:(0:Int)≤(j:Int):=by omega
  by_cases hli:i<n
  · have hli':(i:Int)<(n:Int):=by omega
    by_cases hlj:j<m
    · as_aux_lemma=>
       have hlj':(j:Int)<(m:Int):=by omega
       have hka:i<a.length:=by rw [HA.out];exact hli
       have hkb:j<b.length:=by rw [HB.out];exact hlj
       obtain ⟨g1,o1,hA1,hr1⟩:=H1.out.resolve_left (fun e=>by rw [e] at hka;simp at hka)
       obtain ⟨g2,o2,hB1,hr2⟩:=H2.out.resolve_left (fun e=>by rw [e] at hkb;simp at hkb)
       subst hA1
       subst hB1
       obtain ⟨p,q,hpq⟩:∃ p q:Int,rg a i=(p,q):=⟨_,_,rfl⟩
       obtain ⟨s,t,hst⟩:∃ s t:Int,rg b j=(s,t):=⟨_,_,rfl⟩
       have x1:=hr1 i hka
       have x2:=hr2 j hkb
       have hT2:=hT.out
       rw [drop_rg' hka,drop_rg' hkb,hpq,hst,touch_cons] at hT2
       rw [hpq] at x1
       rw [hst] at x2
       have cp:=hG.cellv x1.1
       have cq:=hG.cellv x1.2
       have cs:=hG.cellv x2.1
       have ct:=hG.cellv x2.2
       simp only at cp cq cs ct hT2
       clear x1 x2 hr1 hr2
       by_cases hc1:q<s
       · as_aux_lemma=>
          have HT2:Hid (touchL (a.drop (i+1)) (b.drop j)=r):=by rw [if_pos hc1] at hT2;rw [drop_rg' hkb,hst];exact hT2
          clear hT2 hT hpq hst
          go_wp2
          go_quiet (fail)
          go_wp2
          exact ⟨⟨i+1,j,by go_num,rfl,by omega,by omega,HT2,(by first | exact hG.drewN _ | exact (hG.drewN _).drewN _)⟩,by simp [intOf];omega⟩
       · by_cases hc2:t<p
         · as_aux_lemma=>
            have HT2:Hid (touchL (a.drop i) (b.drop (j+1))=r):=by rw [if_neg hc1,if_pos hc2] at hT2;rw [drop_rg' hka,hpq];exact hT2
            clear hT2 hT hpq hst
            go_wp2
            go_quiet (fail)
            go_wp2
            go_quiet (fail)
            go_wp2
            exact ⟨⟨i,j+1,rfl,by go_num,by omega,by omega,HT2,(by first | exact hG.drewN _ | exact (hG.drewN _).drewN _)⟩,by simp [intOf];omega⟩
         · as_aux_lemma=>
            have HT2:Hid (r=true):=by rw [if_neg hc1,if_neg hc2] at hT2;exact hT2.symm
            clear hT2 hT hpq hst
            go_wp2
            go_quiet (fail)
            go_wp2
            go_quiet (fail)
            go_wp2
            go_ret
            have hrt:=HT2.out
            exact ⟨by first | rfl | (rw [hrt];rfl),(by first | exact hG.drewN _ | exact (hG.drewN _).drewN _)⟩
    · as_aux_lemma=>
       have hge:¬ (j:Int)<(m:Int):=by omega
       have HT2:Hid (r=false):=by
        have:=hT.out
        rw [(List.drop_eq_nil_of_le (by rw [HB.out];omega):b.drop j=[]),touch_nil_right] at this
        exact this.symm
       clear hT
       go_wp2
       go_ret
       have hrt:=HT2.out
       exact ⟨by first | rfl | (rw [hrt];rfl),hG⟩
  · as_aux_lemma=>
     have hge:¬ (i:Int)<(n:Int):=by omega
     have HT2:Hid (r=false):=by
      have:=hT.out
      rw [(List.drop_eq_nil_of_le (by rw [HA.out];omega):a.drop i=[]),touch_nil_left] at this
      exact this.symm
     clear hT
     go_wp2
     go_ret
     have hrt:=HT2.out
     exact ⟨by first | rfl | (rw [hrt];rfl),hG⟩
structure Pb where
 r:Nat
 us:List (Int × Int)
 wt:Int
structure St where
 ws:List Int
 aq:List Int
 bk:List Pb
def at0 (l:List Int) (i:Nat):Int:=l[i]?.getD 0
theorem at0_lt {l:List Int} {i:Nat} (h:i<l.length):at0 l i=l[i]:=by simp [at0,h]
theorem at0_set {l:List Int} {i j:Nat} {x:Int} (h:i<l.length):at0 (l.set i x) j=if j=i then x else at0 l j:=by
 unfold at0
 rw [List.getElem?_set]
 by_cases e:i=j
 · subst e;simp [h]
 · simp [e,Ne.symm e]
def fstS (rs:List Rl) (n:Nat):List (Int × Int):=(rs[n]?.map fun r=>keyAt r.key 0).getD []
def usAt (bk:List Pb) (i:Nat):List (Int × Int):=(bk[i]?.map Pb.us).getD []
def leanL (rs:List Rl) (bk:List Pb) (n:Nat):List Nat:=(List.range bk.length).filter fun i=>touchL (fstS rs n) (usAt bk i)
def bump (w:Int) (st:St) (i:Nat):St:=
 match st.bk[i]? with
 | none=>st
 | some b=>if b.wt<w then ⟨st.ws,st.aq.set b.r (at0 st.aq b.r+(w - b.wt)),st.bk.set i ⟨b.r,b.us,w⟩⟩ else st
def liftP (rs:List Rl) (n:Nat) (st:St):St:=(leanL rs st.bk n).foldl (bump (at0 st.aq n)) ⟨st.ws.set n (at0 st.aq n),st.aq,st.bk⟩
def look (st:St):Nat→Nat→Option Nat
 | 0,_=>none
 | k+1,n=>if 64<at0 st.aq n∨at0 st.ws n<at0 st.aq n then some n else look st k (n+1)
def settleP (rs:List Rl) (last:Nat):Nat→St→Bool × St
 | 0,st=>(true,st)
 | f+1,st=>match look st (last+1) 0 with
  | none=>(true,st)
  | some n=>if 64<at0 st.aq n then (false,st) else settleP rs last f (liftP rs n st)
def wsum:List Pb→Nat→Int
 | [],_=>0
 | b::l,n=>(if b.r=n then b.wt else 0)+wsum l n
theorem wsum_append (l k:List Pb) (n:Nat):wsum (l++k) n=wsum l n+wsum k n:=by
 induction l with
 | nil=>simp [wsum]
 | cons b l ih=>simp only [List.cons_append,wsum,ih];omega
theorem wsum_set:∀ (l:List Pb) (i n:Nat) (b:Pb) (w:Int),l[i]? = some b→wsum (l.set i ⟨b.r,b.us,w⟩) n=wsum l n+(if b.r=n then w - b.wt else 0)
 | [],i,n,b,w,h=>by simp at h
 | c::l,0,n,b,w,h=>by
  simp at h;subst h
  simp only [List.set_cons_zero,wsum]
  split <;> omega
 | c::l,i+1,n,b,w,h=>by
  simp at h
  simp only [List.set_cons_succ,wsum,wsum_set l i n b w h]
  omega
theorem wsum_bound:∀ (l:List Pb) (n:Nat),(∀ b∈l,1≤b.wt∧b.wt≤64)→0≤wsum l n∧wsum l n≤64*l.length
 | [],n,_=>by simp [wsum]
 | b::l,n,h=>by
  have h1:=wsum_bound l n (fun x hx=>h x (List.mem_cons_of_mem _ hx))
  have h2:=h b List.mem_cons_self
  simp only [wsum,List.length_cons]
  split <;> omega
structure OkSt (cs:List Int) (us:List (List (Int × Int))) (st:St):Prop where
 n:cs.length≤256
 wl:st.ws.length=cs.length
 al:st.aq.length=cs.length
 wb:∀ i,i<cs.length→1≤at0 st.ws i∧at0 st.ws i≤64
 pb:∀ b∈st.bk,b.r<cs.length∧1≤b.wt∧b.wt≤64
 pl:st.bk.length≤4096
 cb:∀ i,i<cs.length → -100≤at0 cs i∧at0 cs i≤100
 asum:∀ i,i<cs.length→at0 st.aq i=at0 cs i+wsum st.bk i
 uss:st.bk.map Pb.us=us
theorem OkSt.ab {cs:List Int} {us:List (List (Int × Int))} {st:St} (h:OkSt cs us st) {i:Nat} (hi:i<cs.length) : -100≤at0 st.aq i∧at0 st.aq i≤300000:=by
 have h1:=h.cb i hi
 have h2:=wsum_bound st.bk i (fun b hb=>⟨(h.pb b hb).2.1,(h.pb b hb).2.2⟩)
 have h3:=h.asum i hi
 have h4:=h.pl
 omega
theorem usAt_eq {bk:List Pb} {us:List (List (Int × Int))} (h:bk.map Pb.us=us) (i:Nat):usAt bk i=(us[i]?).getD []:=by
 subst h
 simp [usAt]
theorem leanL_eq {rs:List Rl} {bk bk':List Pb} (h:bk.map Pb.us=bk'.map Pb.us) (n:Nat):leanL rs bk n=leanL rs bk' n:=by
 have hl:bk.length=bk'.length:=by simpa using congrArg List.length h
 unfold leanL
 rw [hl]
 congr 1
 funext i
 rw [usAt_eq h,usAt_eq rfl]
theorem map_us_set {bk:List Pb} {i:Nat} {b:Pb} {w:Int} (h:bk[i]? = some b):(bk.set i ⟨b.r,b.us,w⟩).map Pb.us=bk.map Pb.us:=by
 rw [List.map_set]
 obtain ⟨hi,hb⟩:=List.getElem?_eq_some_iff.1 h
 refine List.ext_getElem (by simp) fun j h1 h2 => ?_
 rw [List.getElem_set]
 split
 · rename_i e;subst e;simp [hb]
 · rfl
theorem OkSt.bump {cs:List Int} {us:List (List (Int × Int))} {st:St} (h:OkSt cs us st) (w:Int) (i:Nat) (hw:1≤w) (hw2:w≤64):OkSt cs us (bump w st i):=by
 unfold Go.Proofs.bump
 cases hb:st.bk[i]? with
 | none=>exact h
 | some b=>
  simp only
  have hm:b∈st.bk:=List.mem_of_getElem? hb
  have hpb:=h.pb b hm
  by_cases hlt:b.wt<w
  · rw [if_pos hlt]
    have hbr:b.r<st.aq.length:=by rw [h.al];exact hpb.1
    refine ⟨h.n,h.wl,by simp [h.al],h.wb,fun c hc => ?_,by simpa using h.pl,h.cb,fun j hj => ?_,(map_us_set hb).trans h.uss⟩
    · rcases List.mem_or_eq_of_mem_set hc with h1 | h1
      · exact h.pb c h1
      · subst h1;exact ⟨hpb.1,hw,hw2⟩
    · rw [at0_set hbr,wsum_set _ _ _ _ _ hb]
      have h1:=h.asum j hj
      by_cases e:j=b.r
      · subst e;simp;omega
      · rw [if_neg e,if_neg (fun x=>e x.symm)];omega
  · rw [if_neg hlt];exact h
theorem bump_ws (w:Int) (st:St) (i:Nat):(bump w st i).ws=st.ws:=by
 unfold bump
 split
 · rfl
 · split <;> rfl
theorem bumps_ws (w:Int):∀ (l:List Nat) (st:St),(l.foldl (bump w) st).ws=st.ws
 | [],st=>rfl
 | i::l,st=>by rw [List.foldl_cons,bumps_ws w l,bump_ws]
theorem OkSt.bumps {cs:List Int} {us:List (List (Int × Int))} (w:Int) (hw:1≤w) (hw2:w≤64):∀ (l:List Nat) (st:St),OkSt cs us st→OkSt cs us (l.foldl (Go.Proofs.bump w) st)
 | [],st,h=>h
 | i::l,st,h=>by rw [List.foldl_cons];exact OkSt.bumps w hw hw2 l _ (h.bump w i hw hw2)
theorem OkSt.setw {cs:List Int} {us:List (List (Int × Int))} {st:St} (h:OkSt cs us st) {n:Nat} (hn:n<cs.length) {w:Int} (hw:1≤w) (hw2:w≤64):OkSt cs us ⟨st.ws.set n w,st.aq,st.bk⟩:=by
 refine ⟨h.n,by simp [h.wl],h.al,fun i hi => ?_,h.pb,h.pl,h.cb,h.asum,h.uss⟩
 show 1≤at0 (st.ws.set n w) i∧_
 rw [at0_set (by rw [h.wl];exact hn)]
 split
 · exact ⟨hw,hw2⟩
 · exact h.wb i hi
def tws:List Int→Nat
 | []=>0
 | x::l=>x.toNat+tws l
theorem tws_set:∀ (l:List Int) (n:Nat) (x:Int),n<l.length→tws (l.set n x)+(at0 l n).toNat=tws l+x.toNat
 | [],n,x,h=>by simp at h
 | y::l,0,x,h=>by simp [tws,at0];omega
 | y::l,n+1,x,h=>by
  have:=tws_set l n x (by simpa using h)
  simp [tws,at0] at this ⊢
  omega
theorem tws_bound:∀ (l:List Int),(∀ i,i<l.length→at0 l i≤64)→tws l≤64*l.length
 | [],_=>by simp [tws]
 | x::l,h=>by
  have h1:=tws_bound l (fun i hi=>by have:=h (i+1) (by simpa using hi);simpa [at0] using this)
  have h2:=h 0 (by simp)
  simp [at0] at h2
  simp only [tws,List.length_cons]
  omega
theorem liftP_ws (rs:List Rl) (n:Nat) (st:St):(liftP rs n st).ws=st.ws.set n (at0 st.aq n):=by
 unfold liftP
 rw [bumps_ws]
theorem OkSt.lift {cs:List Int} {us:List (List (Int × Int))} {st:St} (h:OkSt cs us st) (rs:List Rl) {n:Nat} (hn:n<cs.length) (h1:at0 st.ws n<at0 st.aq n) (h2:at0 st.aq n≤64):OkSt cs us (liftP rs n st):=by
 have hw:=(h.wb n hn).1
 exact OkSt.bumps _ (by omega) h2 _ _ (h.setw hn (by omega) h2)
def heldR (v:Value):Option (DataW Value × List MemPlace):=some (.held v,[])
def InI (k:Int):Prop := -9223372036854775808≤k∧k≤9223372036854775807
def IMap (W:World) (m N:Nat) (f:Int→Option Value):Prop:=
 ∃ (n:Nat) (D:DataW Value),W.ownsMap Tryz.prog 3 heldR m n D∧n≤N∧∀ k:Int,Maps.has D (.int .i64 k)=(f k).isSome∧∀ v,f k=some v→∀ z,D.atKey (.int .i64 k) z = .held v
theorem key3:Maps.Keyed Tryz.prog 3:=Maps.int_keyed Tryz.underlying3
theorem keyI {k:Int} (h:InI k):keyOf Tryz.prog 3 (.int .i64 k)=some (.int .i64 k):=Maps.keyOf_int_mk Tryz.underlying3 (by
 obtain ⟨h1,h2⟩:=h
 simp [Lit.wf,IntKind.min,IntKind.max,IntKind.bits,IntKind.signed]
 omega)
theorem IMap.made (w:World):IMap (w.alloc (.map #[] 0)) w.heap.size 0 (fun _=>none):=
 ⟨0,.map [],World.ownsMap_made w _ _ _,Nat.le_refl _,fun k=>⟨by simp [Maps.has],fun v h=>by cases h⟩⟩
theorem IMap.kept {W W':World} {m N:Nat} {f:Int→Option Value} (h:IMap W m N f) (hm:∀ o,W.heap[m]? = some o→W'.heap[m]? = some o):IMap W' m N f:=by
 obtain ⟨n,D,⟨es,c,hb,hF⟩,hn,hK⟩:=h
 exact ⟨n,D,⟨es,c,hm _ hb,hF⟩,hn,hK⟩
theorem IMap.mono {W:World} {m N N':Nat} {f:Int→Option Value} (h:IMap W m N f) (hn:N≤N'):IMap W m N' f:=by
 obtain ⟨n,D,h1,h2,h3⟩:=h
 exact ⟨n,D,h1,by omega,h3⟩
theorem IMap.isMap {W:World} {m N:Nat} {f:Int→Option Value} (h:IMap W m N f):∃ es c,W.heap[m]? = some (.map es c):=by
 obtain ⟨n,D,⟨es,c,hb,_⟩,_⟩:=h
 exact ⟨es,c,hb⟩
theorem IMap.look {W:World} {m N:Nat} {f:Int→Option Value} (h:IMap W m N f) {t e:TypeId} {z:Value} (ht:Tryz.prog.underlying t=some (.map 3 e)) (hz:(zeroValue e).run Tryz.prog W = .ok z W) {k:Int} (hk:InI k) :
 (Instr.lookup t (.map (some m)) (.int .i64 k) false).run Tryz.prog W = .ok ((f k).getD z) W:=by
 obtain ⟨n,D,hD,_,hK⟩:=h
 obtain ⟨v,ps,hrun,hv⟩:=hD.lookup key3 ht hz (zd := .held z) (zp:=[]) rfl (keyI hk)
 rw [hrun]
 unfold heldR at hv
 simp only [Option.some.injEq,Prod.mk.injEq] at hv
 cases hf:f k with
 | none=>
  have h1:=(hK k).1
  rw [hf] at h1
  rw [Maps.atKey_of_not_has h1] at hv
  injection hv.1 with e1
  rw [e1];rfl
 | some x=>
  rw [(hK k).2 x hf] at hv
  injection hv.1 with e1
  rw [e1];rfl
theorem IMap.look_ok {W:World} {m N:Nat} {f:Int→Option Value} (h:IMap W m N f) {t e:TypeId} {z:Value} (ht:Tryz.prog.underlying t=some (.map 3 e)) (hz:(zeroValue e).run Tryz.prog W = .ok z W) {k:Int} (hk:InI k) :
 (Instr.lookup t (.map (some m)) (.int .i64 k) true).run Tryz.prog W = .ok (.tuple #[(f k).getD z,.bool (f k).isSome]) W:=by
 obtain ⟨n,D,hD,_,hK⟩:=h
 obtain ⟨v,ps,hrun,hv⟩:=hD.look_ok key3 ht hz (zd := .held z) (zp:=[]) rfl (keyI hk)
 rw [hrun,(hK k).1]
 unfold heldR at hv
 simp only [Option.some.injEq,Prod.mk.injEq] at hv
 cases hf:f k with
 | none=>
  have h1:=(hK k).1
  rw [hf] at h1
  rw [Maps.atKey_of_not_has h1] at hv
  injection hv.1 with e1
  rw [e1];rfl
 | some x=>
  rw [(hK k).2 x hf] at hv
  injection hv.1 with e1
  rw [e1];rfl
def updM (f:Int→Option Value) (k:Int) (v:Value):Int→Option Value:=fun x=>if x=k then some v else f x
theorem IMap.store {W:World} {m N:Nat} {f:Int→Option Value} (h:IMap W m N f) (hN:N<1000000000000000000) {t e:TypeId} (ht:Tryz.prog.underlying t=some (.map 3 e)) {k:Int} (hk:InI k) (v:Value) :
 ∃ w',(Instr.mapUpdate t (.map (some m)) (.int .i64 k) v).run Tryz.prog W = .ok () w'∧IMap w' m (N+1) (updM f k v)∧W.mapTurned w' m:=by
 obtain ⟨n,D,hD,hn,hK⟩:=h
 obtain ⟨w',hrun,hD',ht⟩:=hD.store key3 ht (by unfold maxLen;omega) (keyI hk) (d := .held v) (ps:=[]) rfl
 have hmap:=hD.isMap
 have hkl:WideAt.IsKeyLit (.int .i64 k):=by simp [WideAt.IsKeyLit]
 refine ⟨w',hrun,⟨n+1,_,hD',by omega,fun x => ?_⟩,ht⟩
 by_cases hx:x=k
 · subst hx
   have e1:updM f x v x=some v:=by simp [updM]
   rw [e1,Maps.has_put_same hmap hkl]
   refine ⟨rfl,fun u hu z => ?_⟩
   cases hu
   exact Maps.atKey_put_same hmap hkl _ _
 · have e1:updM f k v x=f x:=by simp [updM,hx]
   have hne:(Lit.int .i64 x)≠Lit.int .i64 k:=fun e=>hx (by injection e)
   rw [e1,Maps.has_put_other hne]
   refine ⟨(hK x).1,fun u hu z => ?_⟩
   rw [Maps.atKey_put_other hne]
   exact (hK x).2 u hu z
theorem turned_other {W W':World} {m b:Nat} (h:W.mapTurned W' m) (hb:b≠m):W'.heap[b]? = W.heap[b]? := by
 obtain ⟨es,clock,es',clock',h1,rfl⟩:=h
 exact ChangeMaps.heap_setBlock_other h1 _ hb
theorem turned_below {W W':World} {m n:Nat} (h:W.mapTurned W' m) (hn:n≤m):Below n W W':=by
 have hg:=h.grown
 obtain ⟨es,clock,es',clock',h1,_⟩:=h
 exact (Below.refl _ W).grown hg (Nat.le_trans hn (Nat.le_of_lt (Array.getElem?_eq_some_iff.1 h1).1)) (fun k hk=>by cases hk;exact hn)
def RAt (w:World) (g o:Nat) (r:Rl):Prop:=∃ av kv pv rv,w.cell? ⟨g,o,none⟩=some (.bool r.bg)∧w.cell? ⟨g,o+1,none⟩=some av∧w.cell? ⟨g,o+2,none⟩=some kv∧w.cell? ⟨g,o+3,none⟩=some pv∧w.cell? ⟨g,o+4,none⟩=some (.bool r.en)∧w.cell? ⟨g,o+5,none⟩=some rv∧w.cell? ⟨g,o+6,none⟩=some (.int .i64 r.cu)∧RR w av kv pv rv r
theorem RAt.below {w w':World} {n g o:Nat} {r:Rl} (h:RAt w g o r) (hb:Below n w w') (hn:w.heap.size≤n):RAt w' g o r:=by
 obtain ⟨av,kv,pv,rv,h0,h1,h2,h3,h4,h5,h6,h7⟩:=h
 exact ⟨av,kv,pv,rv,cell_below h0 hb hn,cell_below h1 hb hn,cell_below h2 hb hn,cell_below h3 hb hn,cell_below h4 hb hn,cell_below h5 hb hn,cell_below h6 hb hn,h7.below hb hn⟩
def PsR (w:World) (v:Value) (rs:List Rl):Prop:=
 ∃ (a:Option Addr) (cap:Nat),v = .slice a rs.length cap∧rs.length≤cap∧(rs=[]∨∃ g o,a=some ⟨g,o,none⟩∧∀ (j:Nat) (hj:j<rs.length),RAt w g (o+j*7) rs[j])
theorem PsR.below {w w':World} {n:Nat} {v:Value} {rs:List Rl} (h:PsR w v rs) (hb:Below n w w') (hn:w.heap.size≤n):PsR w' v rs:=by
 obtain ⟨a,cap,h1,h2,h3 | ⟨g,o,h3,h4⟩⟩:=h
 · exact ⟨a,cap,h1,h2,.inl h3⟩
 · exact ⟨a,cap,h1,h2,.inr ⟨g,o,h3,fun j hj=>(h4 j hj).below hb hn⟩⟩
theorem PsR.grown {w w':World} {v:Value} {rs:List Rl} (h:PsR w v rs) (k:Grown w w'):PsR w' v rs:=h.below k.below (Nat.le_refl _)
def fstR:List Rl→Nat→Int × Int
 | [],_=>(0,0)
 | r::l,k=>if chk r=0 then fstR l (k+1) else ((k:Int),chk r)
def allE (rs:List Rl):Int × Int:=if 256<rs.length then (0,72) else fstR rs 0
theorem drop_rl {rs:List Rl} {k:Nat} (h:k<rs.length):rs.drop k=rs[k]::rs.drop (k+1):=List.drop_eq_getElem_cons h
set_option maxHeartbeats 4000000 in
theorem all_any (v:Value) (rs:List Rl) (w:World) (hT:Tab w) (h:PsR w v rs):Calls Tryz.prog 73 #[.agg #[v]] w fun e w'=>e = .returned (.tuple #[.int .i64 (allE rs).1,.int .i64 (allE rs).2])∧Grown w w':=by
 have HP:Hid (∀ W,Grown w W→PsR W v rs):=fun W hW=>h.grown hW
 have HT:Hid (Tab w):=hT
 obtain ⟨ra,rc,rfl,_,_⟩:=h
 obtain ⟨n,hn⟩:∃ n,rs.length=n:=⟨_,rfl⟩
 have HN:Hid (rs.length=n):=hn
 rw [hn] at HP ⊢
 unfold allE
 rw [hn]
 clear hn hT
 by_cases h1:256<n
 · rw [if_pos h1]
   have h1':(256:Int)<(n:Int):=by omega
   go_enter Tryz.func73,Tryz.ntmps73
   go_wp2
   go_ret2
   exact ⟨rfl,(Grown.refl _).alloc _⟩
 · rw [if_neg h1]
   have h1':¬ (256:Int)<(n:Int):=by omega
   obtain ⟨E,hE⟩:∃ E,fstR rs 0=E:=⟨_,rfl⟩
   have HE:Hid (fstR rs 0=E):=hE
   rw [hE]
   clear hE
   obtain ⟨E1,E2⟩:=E
   simp only
   go_enter Tryz.func73,Tryz.ntmps73
   go_wp2
   go_loopw [14] (fun vi wr=>∃ k:Nat,vi = .int .i64 k∧k≤n∧Hid (fstR (rs.drop k) k=(E1,E2))∧Grown (w.alloc (.cells #[.slice ra n rc] 24)) wr) (fun vi _=>n - (intOf vi).toNat)
   case atStart=>exact ⟨0,rfl,by omega,HE,Grown.refl _⟩
   case round=>
    obtain ⟨k,rfl,hk,hF,hB⟩:=hrel
    have hpos:(0:Int)≤(k:Int):=by omega
    have hkI:(k:Int)≤256:=by omega
    have c0:=hB.cellv (a:=⟨w.heap.size,0,none⟩) (v := .slice ra n rc) (by simp)
    have hG0:Grown w wr:=((Grown.refl w).alloc _).trans hB
    by_cases hlt:k<n
    · have hlt':(k:Int)<(n:Int):=by omega
      have hkl:k<rs.length:=by rw [HN.out];exact hlt
      obtain ⟨a',c',e',_,hP⟩:=HP.out wr hG0
      obtain ⟨g,o,ha',hP2⟩:=hP.resolve_left (fun e=>by rw [e] at hkl;simp at hkl)
      injection e' with e1 e2 e3
      clear e2 e3
      rw [ha'] at e1
      subst e1
      obtain ⟨av,kv,pv,rv,q0,q1,q2,q3,q4,q5,q6,hR⟩:=hP2 k hkl
      have HC:Hid (∀ W,Grown wr W→Calls Tryz.prog 98 #[.agg #[.bool rs[k].bg,av,kv,pv,.bool rs[k].en,rv,.int .i64 rs[k].cu]] W fun e w'=>e = .returned (.int .i64 (chk rs[k]))∧Grown W w'):=fun W hW=>by
       have hg:Grown w W:=hG0.trans hW
       exact check_any rs[k] av kv pv rv W (HT.out.grown hg) (hR.grown hW)
      obtain ⟨a1,a2,a3,rfl⟩:=hR.a.sl
      obtain ⟨b1,b2,b3,rfl⟩:=hR.k.sl
      obtain ⟨p1,p2,p3,rfl⟩:=hR.p.sl
      obtain ⟨r1,r2,r3,rfl⟩:=hR.r.sl
      have hF2:=hF.out
      rw [drop_rl hkl] at hF2
      unfold fstR at hF2
      generalize hch:chk rs[k]=ch at HC hF2
      generalize rs[k].bg=xb at *
      generalize rs[k].en=xe at *
      generalize rs[k].cu=xc at *
      by_cases hq:ch=0
      · have HF2:Hid (fstR (rs.drop (k+1)) (k+1)=(E1,E2)):=by rw [if_pos hq] at hF2;exact hF2
        subst hq
        clear hF2 hF hch hR hP hP2 ha'
        go_wp2_with (go_at_call 98;refine (HC.out _ ((Grown.refl _).alloc _)).mono ?_;rintro e w' ⟨rfl,hb⟩)
        exact ⟨⟨k+1,by go_num,by omega,HF2,(hB.alloc _).trans hb⟩,by simp [intOf];omega⟩
      · rw [if_neg hq] at hF2
        injection hF2 with f1 f2
        subst f1 f2
        have hq':(ch != 0)=true:=by simpa using hq
        clear hF hch hR hP hP2 ha'
        go_wp2_with (go_at_call 98;refine (HC.out _ ((Grown.refl _).alloc _)).mono ?_;rintro e w' ⟨rfl,hb⟩)
        go_ret2
        exact ⟨rfl,((Grown.refl w).alloc _).trans ((hB.alloc _).trans hb)⟩
    · have hge:¬ (k:Int)<(n:Int):=by omega
      have hF2:=hF.out
      rw [List.drop_eq_nil_of_le (by rw [HN.out];omega)] at hF2
      unfold fstR at hF2
      injection hF2 with f1 f2
      subst f1 f2
      clear hF
      go_wp2
      go_ret2
      exact ⟨rfl,hG0⟩
def Turns (B:Nat) (W W':World):Prop:=∀ b,b≠B→W'.heap[b]? = W.heap[b]?
theorem turns_set (W:World) (B j:Nat) (u:Value):Turns B W (W.setCell ⟨B,j,none⟩ u):=fun b hb=>by
 show (W.heap.modify B _)[b]? = _
 rw [Array.getElem?_modify,if_neg (fun e=>hb e.symm)]
theorem set_heap {W:World} {B j:Nat} {u:Value} {cs:Array Value} {t:TypeId} {m:Nat × Nat} (h:W.heap[B]? = some (.cells cs t m)):(W.setCell ⟨B,j,none⟩ u).heap[B]? = some (.cells (cs.setIfInBounds j u) t m):=by
 show (W.heap.modify B _)[B]? = _
 rw [Array.getElem?_modify,if_pos rfl,h]
 rfl
theorem cell_of {W:World} {B j:Nat} {cs:Array Value} {t:TypeId} {m:Nat × Nat} (h:W.heap[B]? = some (.cells cs t m)):W.cell? ⟨B,j,none⟩=cs[j]? := by
 simp [World.cell?,h]
theorem cell_same {W W':World} {B j:Nat} (h:W'.heap[B]? = W.heap[B]?):W'.cell? ⟨B,j,none⟩=W.cell? ⟨B,j,none⟩:=by
 simp [World.cell?,h]
theorem ne_obj {W:World} {a b:Nat} {o o':Obj} (h1:W.heap[a]? = some o) (h2:W.heap[b]? = some o') (hne:o≠o'):a≠b:=fun e=>by
 subst e
 rw [h1] at h2
 injection h2 with h2
 exact hne h2
def UR (W:World) (base:Nat) (v:Value) (l:List (Int × Int)):Prop:=
 ∃ (a:Option Addr) (cap:Nat),v = .slice a l.length cap∧l.length≤cap∧(l=[]∨∃ g o,a=some ⟨g,o,none⟩∧Reads W g o l∧(g<base∨∃ cs m,W.heap[g]? = some (.cells cs 55 m)))
theorem UR.rs {W:World} {base:Nat} {v:Value} {l:List (Int × Int)} (h:UR W base v l):Rs W v l:=by
 obtain ⟨a,cap,h1,h2,h3⟩:=h
 exact ⟨a,cap,h1,h2,h3.imp id fun ⟨g,o,h4,h5,_⟩=>⟨g,o,h4,h5⟩⟩
theorem UR.turn {W W':World} {base B:Nat} {v:Value} {l:List (Int × Int)} {o:Obj} (h:UR W base v l) (hB:base≤B) (ho:W.heap[B]? = some o) (hn:∀ cs m,o ≠ .cells cs 55 m) (k:Turns B W W'):UR W' base v l:=by
 obtain ⟨a,cap,h1,h2,h3⟩:=h
 refine ⟨a,cap,h1,h2,h3.imp id ?_⟩
 rintro ⟨g,o',h4,h5,h6⟩
 have hne:g≠B:=by
  rcases h6 with h6 | ⟨cs,m,h6⟩
  · omega
  · exact ne_obj h6 ho (fun e=>hn cs m e.symm)
 refine ⟨g,o',h4,fun j hj => ?_,h6.imp id fun ⟨cs,m,h6⟩=>⟨cs,m,(k g hne).trans h6⟩⟩
 rw [cell_same (k g hne),cell_same (k g hne)]
 exact h5 j hj
theorem UR.below {W W':World} {base:Nat} {v:Value} {l:List (Int × Int)} (h:UR W base v l) (hb:Below W.heap.size W W'):UR W' base v l:=by
 obtain ⟨a,cap,h1,h2,h3⟩:=h
 refine ⟨a,cap,h1,h2,?_⟩
 by_cases hl:l=[]
 · exact .inl hl
 · obtain ⟨g,o,h4,h5,h6⟩:=h3.resolve_left hl
   have hg:=h5.lt hl
   refine .inr ⟨g,o,h4,h5.below hb hg,h6.imp id fun ⟨cs,m,h6⟩=>⟨cs,m,(hb.block g hg).trans h6⟩⟩
def LnR (W:World) (base ga:Nat) (v:Value) (l:List Nat):Prop:=
 ∃ (a:Option Addr) (cap:Nat),v = .slice a l.length cap∧l.length≤cap∧(l=[]∨∃ g cs m,a=some ⟨g,0,none⟩∧base≤g∧g≠ga∧W.heap[g]? = some (.cells cs 3 m)∧∀ (j:Nat) (h:j<l.length),W.cell? ⟨g,j,none⟩=some (.int .i64 (l[j]:Nat)))
theorem LnR.turn {W W':World} {base ga B:Nat} {v:Value} {l:List Nat} {o:Obj} (h:LnR W base ga v l) (ho:W.heap[B]? = some o) (hn:B=ga∨∀ cs m,o ≠ .cells cs 3 m) (k:Turns B W W'):LnR W' base ga v l:=by
 obtain ⟨a,cap,h1,h2,h3⟩:=h
 refine ⟨a,cap,h1,h2,h3.imp id ?_⟩
 rintro ⟨g,cs,m,h4,h5,h6,h7,h8⟩
 have hne:g≠B:=by
  rcases hn with e | hn
  · rw [e];exact h6
  · exact ne_obj h7 ho (fun e=>hn cs m e.symm)
 refine ⟨g,cs,m,h4,h5,h6,(k g hne).trans h7,fun j hj => ?_⟩
 rw [cell_same (k g hne)]
 exact h8 j hj
theorem LnR.below {W W':World} {base ga:Nat} {v:Value} {l:List Nat} (h:LnR W base ga v l) (hb:Below W.heap.size W W'):LnR W' base ga v l:=by
 obtain ⟨a,cap,h1,h2,h3⟩:=h
 refine ⟨a,cap,h1,h2,h3.imp id ?_⟩
 rintro ⟨g,cs,m,h4,h5,h6,h7,h8⟩
 have hg:g<W.heap.size:=(Array.getElem?_eq_some_iff.1 h7).1
 have he:=hb.block g hg
 exact ⟨g,cs,m,h4,h5,h6,he.trans h7,fun j hj=>(cell_same he).trans (h8 j hj)⟩
def BK (W:World) (base:Nat) (v:Value) (bk:List Pb) (uvs:List Value):Prop:=
 uvs.length=bk.length∧∃ (a:Option Addr) (cap:Nat),v = .slice a bk.length cap∧bk.length≤cap∧(bk=[]∨∃ gb cs,a=some ⟨gb,0,none⟩∧base≤gb∧W.heap[gb]? = some (.cells cs 163 (0,0))∧∀ (j:Nat) (h:j<bk.length) (h':j<uvs.length),W.cell? ⟨gb,j*3,none⟩=some (.int .i64 (bk[j].r:Nat))∧W.cell? ⟨gb,j*3+1,none⟩=some uvs[j]∧W.cell? ⟨gb,j*3+2,none⟩=some (.int .i64 bk[j].wt))
theorem BK.turn {W W':World} {base B:Nat} {v:Value} {bk:List Pb} {uvs:List Value} {o:Obj} (h:BK W base v bk uvs) (ho:W.heap[B]? = some o) (hn:∀ cs m,o ≠ .cells cs 163 m) (k:Turns B W W'):BK W' base v bk uvs:=by
 obtain ⟨h0,a,cap,h1,h2,h3⟩:=h
 refine ⟨h0,a,cap,h1,h2,h3.imp id ?_⟩
 rintro ⟨gb,cs,h4,h5,h6,h7⟩
 have hne:gb≠B:=ne_obj h6 ho (fun e=>hn cs _ e.symm)
 refine ⟨gb,cs,h4,h5,(k gb hne).trans h6,fun j hj hj' => ?_⟩
 rw [cell_same (k gb hne),cell_same (k gb hne),cell_same (k gb hne)]
 exact h7 j hj hj'
theorem BK.below {W W':World} {base:Nat} {v:Value} {bk:List Pb} {uvs:List Value} (h:BK W base v bk uvs) (hb:Below W.heap.size W W'):BK W' base v bk uvs:=by
 obtain ⟨h0,a,cap,h1,h2,h3⟩:=h
 refine ⟨h0,a,cap,h1,h2,h3.imp id ?_⟩
 rintro ⟨gb,cs,h4,h5,h6,h7⟩
 have he:=hb.block gb (Array.getElem?_eq_some_iff.1 h6).1
 refine ⟨gb,cs,h4,h5,he.trans h6,fun j hj hj' => ?_⟩
 rw [cell_same he,cell_same he,cell_same he]
 exact h7 j hj hj'
def wsF (ws:List Int):Int→Option Value:=fun k=>if 0≤k∧k.toNat<ws.length then some (.int .i64 (at0 ws k.toNat)) else none
theorem wsF_nat {ws:List Int} {n:Nat} (h:n<ws.length):wsF ws (n:Int)=some (.int .i64 (at0 ws n)):=by
 unfold wsF
 rw [if_pos ⟨by omega,by simpa using h⟩]
 simp
theorem wsF_set {ws:List Int} {n:Nat} (h:n<ws.length) (x:Int):updM (wsF ws) n (.int .i64 x)=wsF (ws.set n x):=by
 funext k
 unfold updM wsF
 by_cases e:k=(n:Int)
 · subst e
   rw [if_pos rfl,if_pos ⟨by omega,by simpa using h⟩]
   simp [at0_set h]
 · rw [if_neg e]
   simp only [List.length_set]
   by_cases hk:0≤k∧k.toNat<ws.length
   · rw [if_pos hk,if_pos hk,at0_set h,if_neg (by omega)]
   · rw [if_neg hk,if_neg hk]
theorem wsF_snoc (ws:List Int) (x:Int):updM (wsF ws) (ws.length:Nat) (.int .i64 x)=wsF (ws++[x]):=by
 funext k
 unfold updM wsF
 by_cases e:k=(ws.length:Int)
 · subst e
   rw [if_pos rfl,if_pos ⟨by omega,by simp⟩]
   simp [at0]
 · rw [if_neg e]
   by_cases hk:0≤k∧k.toNat<ws.length
   · rw [if_pos hk,if_pos ⟨hk.1,by simp;omega⟩]
     simp [at0,List.getElem?_append_left hk.2]
   · rw [if_neg hk,if_neg (by simp;omega)]
structure Sc (W w0:World) (sp m1 ga m2 N1 N2:Nat) (bv:Value) (uvs:List Value) (rv:Value) (rs:List Rl) (st:St) (ln:Int→Option Value):Prop where
 blk:W.heap[sp]? = some (.cells #[rv,.map (some m1),.slice (some ⟨ga,0,none⟩) st.aq.length st.aq.length,bv,.map (some m2)] 160 (0,0))
 bel:Below w0.heap.size w0 W
 rul:PsR w0 rv rs
 bsp:w0.heap.size≤sp
 bm1:w0.heap.size≤m1
 bga:w0.heap.size≤ga
 bm2:w0.heap.size≤m2
 m12:m1≠m2
 wm:IMap W m1 N1 (wsF st.ws)
 asb:W.heap[ga]? = some (.cells (ints st.aq).toArray 3 (0,0))
 bkr:BK W w0.heap.size bv st.bk uvs
 urs:∀ (j:Nat) (h:j<st.bk.length) (h':j<uvs.length),UR W w0.heap.size uvs[j] st.bk[j].us
 lnm:IMap W m2 N2 ln
 lnr:∀ k v,ln k=some v→0≤k∧LnR W w0.heap.size ga v (leanL rs st.bk k.toNat)
section
variable {W W' w0:World} {sp m1 ga m2 N1 N2:Nat} {bv:Value} {uvs:List Value} {rv:Value} {rs:List Rl} {st:St} {ln:Int→Option Value}
theorem Sc.below (h:Sc W w0 sp m1 ga m2 N1 N2 bv uvs rv rs st ln) (hb:Below W.heap.size W W'):Sc W' w0 sp m1 ga m2 N1 N2 bv uvs rv rs st ln:=by
 have hl:∀ {b:Nat} {o:Obj},W.heap[b]? = some o→W'.heap[b]? = some o:=fun {b o} ho=>(hb.block b (Array.getElem?_eq_some_iff.1 ho).1).trans ho
 exact ⟨hl h.blk,h.bel.trans (hb.mono h.bel.size),h.rul,h.bsp,h.bm1,h.bga,h.bm2,h.m12,h.wm.kept (fun o ho=>hl ho),hl h.asb,h.bkr.below hb,fun j a b=>(h.urs j a b).below hb,h.lnm.kept (fun o ho=>hl ho),fun k v e=>⟨(h.lnr k v e).1,(h.lnr k v e).2.below hb⟩⟩
theorem Sc.grown (h:Sc W w0 sp m1 ga m2 N1 N2 bv uvs rv rs st ln) (hb:Grown W W'):Sc W' w0 sp m1 ga m2 N1 N2 bv uvs rv rs st ln:=h.below hb.below
theorem Sc.mono (h:Sc W w0 sp m1 ga m2 N1 N2 bv uvs rv rs st ln) {K1 K2:Nat} (h1:N1≤K1) (h2:N2≤K2):Sc W w0 sp m1 ga m2 K1 K2 bv uvs rv rs st ln:=
 ⟨h.blk,h.bel,h.rul,h.bsp,h.bm1,h.bga,h.bm2,h.m12,h.wm.mono h1,h.asb,h.bkr,h.urs,h.lnm.mono h2,h.lnr⟩
theorem Sc.turn1 (h:Sc W w0 sp m1 ga m2 N1 N2 bv uvs rv rs st ln) {K:Nat} {ws:List Int} (ht:W.mapTurned W' m1) (hm:IMap W' m1 K (wsF ws)):Sc W' w0 sp m1 ga m2 K N2 bv uvs rv rs ⟨ws,st.aq,st.bk⟩ ln:=by
 obtain ⟨es,c,ho⟩:=h.wm.isMap
 have hk:Turns m1 W W':=fun b hb=>turned_other ht hb
 have e1:sp≠m1:=ne_obj h.blk ho (by simp)
 have e2:ga≠m1:=ne_obj h.asb ho (by simp)
 exact ⟨(hk _ e1).trans h.blk,h.bel.trans ((turned_below ht h.bm1)),h.rul,h.bsp,h.bm1,h.bga,h.bm2,h.m12,hm,(hk _ e2).trans h.asb,h.bkr.turn ho (by simp) hk,fun j a b=>(h.urs j a b).turn h.bm1 ho (by simp) hk,h.lnm.kept (fun o hb=>(hk _ (fun e=>h.m12 e.symm)).trans hb),fun k v e=>⟨(h.lnr k v e).1,(h.lnr k v e).2.turn ho (.inr (by simp)) hk⟩⟩
theorem Sc.turn2 (h:Sc W w0 sp m1 ga m2 N1 N2 bv uvs rv rs st ln) (i:Nat) (x:Int):Sc (W.setCell ⟨ga,i,none⟩ (.int .i64 x)) w0 sp m1 ga m2 N1 N2 bv uvs rv rs ⟨st.ws,st.aq.set i x,st.bk⟩ ln:=by
 have hk:=turns_set W ga i (.int .i64 x)
 obtain ⟨es,c,ho1⟩:=h.wm.isMap
 obtain ⟨es2,c2,ho2⟩:=h.lnm.isMap
 have e1:sp≠ga:=ne_obj h.blk h.asb (by simp)
 have e2:m1≠ga:=ne_obj ho1 h.asb (by simp)
 have e3:m2≠ga:=ne_obj ho2 h.asb (by simp)
 refine ⟨?_,h.bel.setCell h.bga _,h.rul,h.bsp,h.bm1,h.bga,h.bm2,h.m12,h.wm.kept (fun o hb=>(hk _ e2).trans hb),?_,h.bkr.turn h.asb (by simp) hk,fun j a b=>(h.urs j a b).turn h.bga h.asb (by simp) hk,h.lnm.kept (fun o hb=>(hk _ e3).trans hb),fun k v e=>⟨(h.lnr k v e).1,(h.lnr k v e).2.turn h.asb (.inl rfl) hk⟩⟩
 · rw [hk _ e1,h.blk];simp
 · rw [set_heap h.asb]
   congr 2
   simp [ints,List.map_set]
theorem Sc.turn3 (h:Sc W w0 sp m1 ga m2 N1 N2 bv uvs rv rs st ln) {i gb n cap:Nat} (hv:bv = .slice (some ⟨gb,0,none⟩) n cap) {b:Pb} (hb:st.bk[i]? = some b) (x:Int):Sc (W.setCell ⟨gb,i*3+2,none⟩ (.int .i64 x)) w0 sp m1 ga m2 N1 N2 bv uvs rv rs ⟨st.ws,st.aq,st.bk.set i ⟨b.r,b.us,x⟩⟩ ln:=by
 have hk:=turns_set W gb (i*3+2) (.int .i64 x)
 obtain ⟨hi,hbi⟩:=List.getElem?_eq_some_iff.1 hb
 obtain ⟨es,c,ho1⟩:=h.wm.isMap
 obtain ⟨es2,c2,ho2⟩:=h.lnm.isMap
 obtain ⟨k0,a,cp,k1,k2,k3⟩:=h.bkr
 obtain ⟨gb',cs,k4,k5,k6,k7⟩:=k3.resolve_left (fun e=>by rw [e] at hi;simp at hi)
 subst k4
 rw [hv] at k1
 injection k1 with q1 q2 q3
 injection q1 with q1
 injection q1 with q1
 subst q1
 have e1:sp≠gb:=ne_obj h.blk k6 (by simp)
 have e2:m1≠gb:=ne_obj ho1 k6 (by simp)
 have e3:m2≠gb:=ne_obj ho2 k6 (by simp)
 have e4:ga≠gb:=ne_obj h.asb k6 (by simp)
 have hcell:∀ j,(W.setCell ⟨gb,i*3+2,none⟩ (.int .i64 x)).cell? ⟨gb,j,none⟩=if j=i*3+2 then some (.int .i64 x) else W.cell? ⟨gb,j,none⟩:=fun j=>by
  rw [cell_of (set_heap k6),cell_of k6]
  have hsz:i*3+2<cs.size:=by
   have:=(k7 i hi (by omega)).2.2
   rw [cell_of k6] at this
   exact (Array.getElem?_eq_some_iff.1 this).1
  rw [Array.getElem?_setIfInBounds]
  by_cases e:i*3+2=j
  · rw [if_pos e,if_pos e.symm,if_pos (e ▸ hsz)]
  · rw [if_neg e,if_neg (fun q=>e q.symm)]
 have hus:(st.bk.set i ⟨b.r,b.us,x⟩).map Pb.us=st.bk.map Pb.us:=map_us_set hb
 refine ⟨?_,h.bel.setCell k5 _,h.rul,h.bsp,h.bm1,h.bga,h.bm2,h.m12,h.wm.kept (fun o hb=>(hk _ e2).trans hb),(hk _ e4).trans h.asb,⟨by simpa using k0,_,cp,by rw [hv,q2,q3];simp,by simpa using k2,.inr ⟨gb,_,rfl,k5,set_heap k6,fun j hj hj' => ?_⟩⟩,fun j hj hj' => ?_,h.lnm.kept (fun o hb=>(hk _ e3).trans hb),fun k v e=>⟨(h.lnr k v e).1,?_⟩⟩
 · rw [hk _ e1,h.blk]
 · simp only [List.length_set] at hj
   obtain ⟨c1,c2,c3⟩:=k7 j hj hj'
   rw [hcell,hcell,hcell,if_neg (by omega),if_neg (by omega)]
   simp only [List.getElem_set]
   by_cases e:i=j
   · subst e
     rw [hbi] at c1
     rw [if_pos rfl,if_pos rfl]
     exact ⟨c1,c2,rfl⟩
   · rw [if_neg e,if_neg (by omega)]
     exact ⟨c1,c2,c3⟩
 · simp only [List.length_set] at hj
   have:=(h.urs j hj hj').turn k5 k6 (by simp) hk
   simp only [List.getElem_set]
   by_cases e:i=j
   · subst e
     rw [if_pos rfl]
     rw [hbi] at this
     exact this
   · rw [if_neg e];exact this
 · rw [leanL_eq hus]
   exact (h.lnr k v e).2.turn k6 (.inr (by simp)) hk
theorem Sc.turn4 (h:Sc W w0 sp m1 ga m2 N1 N2 bv uvs rv rs st ln) {K n:Nat} {v:Value} (ht:W.mapTurned W' m2) (hm:IMap W' m2 K (updM ln n v)) (hv:LnR W w0.heap.size ga v (leanL rs st.bk n)):Sc W' w0 sp m1 ga m2 N1 K bv uvs rv rs st (updM ln n v):=by
 obtain ⟨es,c,ho⟩:=h.lnm.isMap
 have hk:Turns m2 W W':=fun b hb=>turned_other ht hb
 have e1:sp≠m2:=ne_obj h.blk ho (by simp)
 have e2:ga≠m2:=ne_obj h.asb ho (by simp)
 refine ⟨(hk _ e1).trans h.blk,h.bel.trans ((turned_below ht h.bm2)),h.rul,h.bsp,h.bm1,h.bga,h.bm2,h.m12,h.wm.kept (fun o hb=>(hk _ h.m12).trans hb),(hk _ e2).trans h.asb,h.bkr.turn ho (by simp) hk,fun j a b=>(h.urs j a b).turn h.bm2 ho (by simp) hk,hm,fun k u e => ?_⟩
 unfold updM at e
 by_cases ek:k=(n:Int)
 · rw [if_pos ek] at e
   cases e
   subst ek
   exact ⟨by omega,by simpa using hv.turn ho (.inr (by simp)) hk⟩
 · rw [if_neg ek] at e
   exact ⟨(h.lnr k u e).1,(h.lnr k u e).2.turn ho (.inr (by simp)) hk⟩
end
def backP (r:Rl):List Pc:=r.res.drop r.cu.toNat
def mayB (p:Pc):List (Int × Int):=if p.k=3 then p.tl else [(p.u,p.u)]
set_option maxHeartbeats 1000000 in
theorem mayBe_any (p:Pc) (tv:Value) (w:World) (base:Nat) (ht:UR w base tv p.tl):Calls Tryz.prog 100 #[.agg #[.int .i64 p.k,.int .i64 p.u,.int .i64 p.y,tv]] w fun e w'=>∃ v,e = .returned v∧UR w' base v (mayB p)∧Grown w w':=by
 have HT:Hid (UR w base tv p.tl):=ht
 obtain ⟨ta,tc,rfl,_,_⟩:=ht
 obtain ⟨tn,htn⟩:∃ tn,p.tl.length=tn:=⟨_,rfl⟩
 rw [htn] at HT ⊢
 obtain ⟨pk,hpk⟩:∃ pk,p.k=pk:=⟨_,rfl⟩
 obtain ⟨pu,hpu⟩:∃ pu,p.u=pu:=⟨_,rfl⟩
 have HM:Hid (mayB p=if pk=3 then p.tl else [(pu,pu)]):=by show _=_;unfold mayB;rw [hpk,hpu]
 rw [hpk,hpu]
 clear hpk hpu htn
 by_cases h:pk=3
 · subst h
   go_enter Tryz.func100,Tryz.ntmps100
   go_wp2
   refine bodyPost_ret (v := .slice ta tn tc) (by simp [results,Tryz.f100,go_sem]) rfl ⟨_,rfl,?_,(Grown.refl _).alloc _⟩
   rw [HM.out]
   simp only [if_true]
   exact HT.out.below ((Grown.refl _).alloc _).below
 · have h':(pk == 3)=false:=by simpa using h
   go_enter Tryz.func100,Tryz.ntmps100
   go_wp2
   refine bodyPost_ret (v := .slice (some ⟨w.heap.size+1,0,none⟩) 1 1) (by simp [results,Tryz.f100,go_sem]) rfl ⟨_,rfl,?_,((Grown.refl _).alloc _).alloc _⟩
   rw [HM.out,if_neg h]
   refine ⟨_,1,rfl,Nat.le_refl _,.inr ⟨w.heap.size+1,0,rfl,fun j hj => ?_,.inr ⟨#[.int .i64 pu,.int .i64 pu],(0,0),?_⟩⟩⟩
   · have:j=0:=by simp at hj;omega
     subst this
     simp [rg]
   · have:=heap_alloc_new (w.alloc (.cells #[.int .i64 pk,.int .i64 pu,.int .i64 p.y,.slice ta tn tc] 58)) (.cells #[.int .i64 pu,.int .i64 pu] 55)
     simpa using this
set_option maxHeartbeats 1000000 in
theorem putBack_some (bg en:Bool) (a1 a2 a3:Option Addr) (n1 c1 n2 c2 n3 c3 g o n c:Nat) (cu:Nat) (w:World) (hcu:cu≤n) (hn:n≤c):Calls Tryz.prog 99 #[.agg #[.bool bg,.slice a1 n1 c1,.slice a2 n2 c2,.slice a3 n3 c3,.bool en,.slice (some ⟨g,o,none⟩) n c,.int .i64 cu]] w fun e w'=>∃ a',e = .returned (.slice a' (n - cu) (c - cu))∧(n - cu=0∨a'=some ⟨g,o+cu*4,none⟩)∧Grown w w':=by
 have h0:(0:Int)≤(cu:Int):=by omega
 have h1:(cu:Int)≤(n:Int):=by omega
 have h2:(n:Int)≤(c:Int):=by omega
 go_enter Tryz.func99,Tryz.ntmps99
 go_wp2
 · exact bodyPost_ret (v := .slice (some ⟨g,o,none⟩) (n - cu) 0) (by simp [results,Tryz.f99,go_sem]) rfl ⟨_,rfl,.inl (by omega),(Grown.refl _).alloc _⟩
 · exact bodyPost_ret (v := .slice (some ⟨g,o+cu*4,none⟩) (n - cu) (c - cu)) (by simp [results,Tryz.f99,go_sem]) rfl ⟨_,rfl,.inr rfl,(Grown.refl _).alloc _⟩
set_option maxHeartbeats 1000000 in
theorem putBack_nil (bg en:Bool) (a1 a2 a3:Option Addr) (n1 c1 n2 c2 n3 c3 c:Nat) (a:Option Addr) (w:World):Calls Tryz.prog 99 #[.agg #[.bool bg,.slice a1 n1 c1,.slice a2 n2 c2,.slice a3 n3 c3,.bool en,.slice a 0 c,.int .i64 0]] w fun e w'=>∃ a' c',e = .returned (.slice a' 0 c')∧Grown w w':=by
 go_enter Tryz.func99,Tryz.ntmps99
 go_wp2
 exact bodyPost_ret (v := .slice a 0 c) (by simp [results,Tryz.f99,go_sem]) rfl ⟨_,_,rfl,(Grown.refl _).alloc _⟩
theorem putBack_any (r:Rl) (av kv pv rv:Value) (w w0:World) (h:RR w0 av kv pv rv r) (hc:0≤r.cu) (hc2:r.cu≤r.res.length):Calls Tryz.prog 99 #[.agg #[.bool r.bg,av,kv,pv,.bool r.en,rv,.int .i64 r.cu]] w fun e w'=>∃ v,e = .returned v∧PR w0 v (backP r)∧Grown w w':=by
 obtain ⟨a1,n1,c1,rfl⟩:=h.a.sl
 obtain ⟨a2,n2,c2,rfl⟩:=h.k.sl
 obtain ⟨a3,n3,c3,rfl⟩:=h.p.sl
 obtain ⟨a,c,rfl,hcap,hr⟩:=h.r
 obtain ⟨cu,hcu⟩:∃ cu:Nat,r.cu=cu:=⟨r.cu.toNat,by omega⟩
 have hB:backP r=r.res.drop cu:=by unfold backP;rw [hcu];simp
 rw [hcu] at hc2 ⊢
 rw [hB]
 by_cases hn:r.res=[]
 · rw [hn] at hc2 ⊢
   have:cu=0:=by simp at hc2;omega
   subst this
   refine (putBack_nil _ _ _ _ _ _ _ _ _ _ _ _ _ w).mono ?_
   rintro e w' ⟨a',c',rfl,hg⟩
   exact ⟨_,rfl,⟨a',c',by simp,by simp,.inl (by simp)⟩,hg⟩
 · obtain ⟨g,o,rfl,hd⟩:=hr.resolve_left hn
   refine (putBack_some _ _ _ _ _ _ _ _ _ _ _ g o _ c cu w (by omega) hcap).mono ?_
   rintro e w' ⟨a',rfl,ha,hg⟩
   refine ⟨_,rfl,⟨a',c - cu,by simp,by simp;omega,?_⟩,hg⟩
   by_cases hz:r.res.length - cu=0
   · exact .inl (List.drop_eq_nil_of_le (by omega))
   · refine .inr ⟨g,o+cu*4,ha.resolve_left hz,fun j hj => ?_⟩
     have hj':cu+j<r.res.length:=by simp at hj;omega
     have:=hd (cu+j) hj'
     rw [List.getElem_drop,show o+cu*4+j*4=o+(cu+j)*4 by omega]
     exact this
theorem Rs.ur {w0 W:World} {v:Value} {l:List (Int × Int)} (h:Rs w0 v l) (hb:Below w0.heap.size w0 W):UR W w0.heap.size v l:=by
 obtain ⟨a,cap,h1,h2,h3⟩:=h
 refine ⟨a,cap,h1,h2,?_⟩
 by_cases hl:l=[]
 · exact .inl hl
 · obtain ⟨g,o,h4,h5⟩:=h3.resolve_left hl
   have hg:=h5.lt hl
   exact .inr ⟨g,o,h4,h5.below hb hg,.inl hg⟩
def pbs (n:Nat):List Pc→List Pb
 | []=>[]
 | p::l=>if p.k=2 then pbs n l else ⟨n,mayB p,1⟩::pbs n l
theorem pbs_snoc (n:Nat) (l:List Pc) (p:Pc):pbs n (l++[p])=pbs n l++(if p.k=2 then [] else [⟨n,mayB p,1⟩]):=by
 induction l with
 | nil=>simp [pbs]
 | cons q l ih=>
  simp only [List.cons_append,pbs,ih]
  split <;> simp
theorem pbs_len (n:Nat) (l:List Pc):(pbs n l).length≤l.length:=by
 induction l with
 | nil=>simp [pbs]
 | cons q l ih=>
  simp only [pbs]
  split <;> simp <;> omega
def bkI (rs:List Rl):Nat→List Pb
 | 0=>[]
 | k+1=>bkI rs k++pbs k ((rs[k]?.map backP).getD [])
def askI (r:Rl):Int:=2 - (r.key.length:Int)+((backP r).length:Int)
theorem bkI_len {rs:List Rl} (h:∀ r∈rs,r.res.length≤16):∀ k,(bkI rs k).length≤16*k
 | 0=>by simp [bkI]
 | k+1=>by
  have h1:=bkI_len h k
  have h2:=pbs_len k ((rs[k]?.map backP).getD [])
  have h3:((rs[k]?.map backP).getD []).length≤16:=by
   cases hk:rs[k]? with
   | none=>simp
   | some r=>
    have:=h r (List.mem_of_getElem? hk)
    simp [backP];omega
  simp only [bkI,List.length_append]
  omega
theorem zero3 (w:World):(zeroValue 3).run Tryz.prog w = .ok (.int .i64 0) w:=by kernel_rfl
theorem zero40 (w:World):(zeroValue 25).run Tryz.prog w = .ok (.slice none 0 0) w:=by kernel_rfl
def leanK (rs:List Rl) (bk:List Pb) (n k:Nat):List Nat:=(List.range k).filter fun i=>touchL (fstS rs n) (usAt bk i)
theorem leanK_succ (rs:List Rl) (bk:List Pb) (n k:Nat):leanK rs bk n (k+1)=leanK rs bk n k++(if touchL (fstS rs n) (usAt bk k) then [k] else []):=by
 unfold leanK
 rw [List.range_succ,List.filter_append]
 congr 1
 simp [List.filter_cons]
theorem leanK_all (rs:List Rl) (bk:List Pb) (n:Nat):leanK rs bk n bk.length=leanL rs bk n:=rfl
theorem leanK_len (rs:List Rl) (bk:List Pb) (n k:Nat):(leanK rs bk n k).length≤k:=by
 unfold leanK
 exact Nat.le_trans (List.length_filter_le _ _) (by simp)
def toI (l:List Nat):List Int:=l.map fun x:Nat=>(x:Int)
theorem toI_append (l k:List Nat):toI (l++k)=toI l++toI k:=by simp [toI]
theorem OwnI.lnr {W:World} {B base ga:Nat} {v:Value} {l:List Nat} (h:OwnI W B v (toI l)) (hb:base≤B) (hg:ga<B):LnR W base ga v l:=by
 have hlen:(toI l).length=l.length:=by simp [toI]
 rcases h.2 with ⟨rfl,h0⟩ | ⟨g,cap,cur,rfl,h1,h2,h3,_⟩
 · have:l=[]:=List.eq_nil_of_length_eq_zero (by omega)
   subst this
   exact ⟨none,0,rfl,Nat.le_refl _,.inl rfl⟩
 · refine ⟨_,cap,by rw [hlen],by omega,.inr ⟨g,cur,(0,0),rfl,by omega,by omega,h2,fun j hj => ?_⟩⟩
   have:=World.ownsRow.cells h rfl j (.int .i64 (l[j]:Nat)) (by simp [ints,toI,hj])
   rw [add_zero_at] at this
   exact this
structure Kok (rs:List Rl):Prop where
 k0:∀ r∈rs,0<r.key.length
 k1:∀ r∈rs,(keyAt r.key 0).length≤512
 n:rs.length≤256
theorem fstS_at {rs:List Rl} {n:Nat} (h:n<rs.length):fstS rs n=keyAt rs[n].key 0:=by simp [fstS,h]
theorem usAt_at {bk:List Pb} {n:Nat} (h:n<bk.length):usAt bk n=bk[n].us:=by simp [usAt,h]
set_option maxHeartbeats 8000000 in
theorem leaning_any {W w0:World} {sp m1 ga m2 N1 N2:Nat} {bv:Value} {uvs:List Value} {rv:Value} {rs:List Rl} {st:St} {ln:Int→Option Value} (n:Nat) (hS:Sc W w0 sp m1 ga m2 N1 N2 bv uvs rv rs st ln) (hn:n<rs.length) (hK:Kok rs) (hu:∀ b∈st.bk,b.us.length≤512) (hbl:st.bk.length≤4096) (hN:N2<1000000) :
 Calls Tryz.prog 121 #[.pointer (some ⟨sp,0,none⟩),.int .i64 n] W fun e w'=>∃ v ln',e = .returned v∧LnR w' w0.heap.size ga v (leanL rs st.bk n)∧Sc w' w0 sp m1 ga m2 N1 (N2+1) bv uvs rv rs st ln':=by
 have hnI:InI (n:Int):=⟨by omega,by have:=hK.n;omega⟩
 have HS:Hid (Sc W w0 sp m1 ga m2 N1 N2 bv uvs rv rs st ln):=hS
 have hL:=hS.lnm.look_ok (t:=96) (e:=25) Tryz.underlying96 (zero40 W) hnI
 have d0:W.cell? ⟨sp,0,none⟩=some rv:=by rw [cell_of hS.blk];simp
 have d3:W.cell? ⟨sp,3,none⟩=some bv:=by rw [cell_of hS.blk];simp
 have d4:W.cell? ⟨sp,4,none⟩=some (.map (some m2)):=by rw [cell_of hS.blk];simp
 have hnI':(n:Int)≤256:=by have:=hK.n;omega
 have hn0:(0:Int)≤(n:Int):=by omega
 cases hf:ln (n:Int) with
 | some v=>
  rw [hf] at hL
  simp only [Option.getD_some,Option.isSome_some] at hL
  have HV:Hid (LnR W w0.heap.size ga v (leanL rs st.bk n)):=by have:=(hS.lnr _ _ hf).2;show LnR _ _ _ _ _;simpa using this
  clear hS hf
  go_enter Tryz.func121,Tryz.ntmps121
  go_wp2
  go_ret
  exact ⟨v,ln,rfl,HV.out,HS.out.mono (Nat.le_refl _) (Nat.le_succ _)⟩
 | none=>
  rw [hf] at hL
  simp only [Option.getD_none,Option.isSome_none] at hL
  have HB:Hid (ga<W.heap.size∧w0.heap.size≤W.heap.size):=⟨(Array.getElem?_eq_some_iff.1 hS.asb).1,hS.bel.size⟩
  have HK:Hid (Kok rs):=hK
  have HU:Hid (∀ b∈st.bk,b.us.length≤512):=hu
  obtain ⟨q0,ba,bc,hbv,_,hbr⟩:=hS.bkr
  obtain ⟨nb,hnb⟩:∃ nb,st.bk.length=nb:=⟨_,rfl⟩
  have HNB:Hid (st.bk.length=nb):=hnb
  have HUL:Hid (uvs.length=nb):=q0.trans hnb
  rw [hnb] at hbv hbl
  have hbl':(nb:Int)≤4096:=by omega
  subst hbv
  obtain ⟨ra,rc,hrv,_,hrr⟩:=hS.rul
  have HR:Hid (∃ g o,ra=some ⟨g,o,none⟩∧∀ (j:Nat) (hj:j<rs.length),RAt w0 g (o+j*7) rs[j]):=hrr.resolve_left (fun e=>by rw [e] at hn;simp at hn)
  have HRL:Hid (n<rs.length):=hn
  obtain ⟨nr,hnr⟩:∃ nr,rs.length=nr:=⟨_,rfl⟩
  have hnn:(n:Int)<(nr:Int):=by omega
  rw [hnr] at hrv
  subst hrv
  have H0:Hid (OwnI W W.heap.size (.slice none 0 0) (toI (leanK rs st.bk n 0))):=OwnI.nil _ _
  clear hS hf hbr hrr hn hK hu hnb hnr q0
  go_enter Tryz.func121,Tryz.ntmps121
  go_wp2
  go_loopw [5,25] (fun vl vi wr=>∃ k:Nat,vi = .int .i64 k∧k≤nb∧Hid (OwnI wr W.heap.size vl (toI (leanK rs st.bk n k)))∧Hid (Below W.heap.size W wr)) (fun _ vi _=>nb - (intOf vi).toNat)
  case atStart=>exact ⟨0,rfl,by omega,H0,Below.refl _ _⟩
  case round=>
   obtain ⟨k,rfl,hk,HO,HBW⟩:=hrel
   clear H0
   have hk0:(0:Int)≤(k:Int):=by omega
   by_cases hlt:k<nb
   · have hlt':(k:Int)<(nb:Int):=by omega
     have hkb:k<st.bk.length:=by rw [HNB.out];exact hlt
     have hku:k<uvs.length:=by rw [HUL.out];exact hlt
     have hSr:=HS.out.below HBW.out
     obtain ⟨_,a',c',e',_,hbr⟩:=hSr.bkr
     obtain ⟨gb,cs,ha,_,hgb,hcells⟩:=hbr.resolve_left (fun e=>by rw [e] at hkb;simp at hkb)
     injection e' with e1 e2 e3
     clear e2 e3
     rw [ha] at e1
     subst e1
     obtain ⟨c0,c1,c2⟩:=hcells k hkb hku
     obtain ⟨g,o,hra,hRA⟩:=HR.out
     subst hra
     have hnl:n<rs.length:=HRL.out
     have hRn:=(hRA n hnl).below hSr.bel (Nat.le_refl _)
     obtain ⟨r,hr⟩:∃ r,rs[n]=r:=⟨_,rfl⟩
     have hkl:=HK.out.k0 _ (List.getElem_mem hnl)
     have hk1:=HK.out.k1 _ (List.getElem_mem hnl)
     have hfs:=fstS_at hnl
     rw [hr] at hRn hkl hk1 hfs
     obtain ⟨av,kv,pv,rv',r0,r1,r2,r3,r4,r5,r6,hRR⟩:=hRn
     obtain ⟨ka,kc,hkv,_,hkk⟩:=hRR.k
     obtain ⟨kg,ko,hka,hkd⟩:=hkk.resolve_left (fun e=>by rw [e] at hkl;simp at hkl)
     subst hka
     obtain ⟨sv,hs0,hsr⟩:=hkd 0 hkl
     rw [Nat.add_zero] at hs0
     subst hkv
     have hky:keyAt r.key 0=r.key[0]:=by simp [keyAt,hkl]
     rw [hky] at hfs hk1
     have hur:=hSr.urs k hkb hku
     have hul:=HU.out _ (List.getElem_mem hkb)
     have HT:Hid (∀ wx,Grown wr wx→Calls Tryz.prog 145 #[sv,uvs[k]] wx fun e w'=>e = .returned (.bool (touchL (fstS rs n) (usAt st.bk k)))∧Grown wx w'):=fun wx hx=>by
      rw [hfs,usAt_at hkb]
      exact touch_any _ _ _ _ _ (hsr.grown hx) (hur.rs.grown hx) (by omega) (by omega)
     obtain ⟨s1,s2,s3,rfl⟩:=hsr.sl
     obtain ⟨u1,u2,u3,hu4⟩:=hur.rs.sl
     rw [hu4] at c1 HT
     have hkn:(0:Int)<(r.key.length:Int):=by omega
     clear hSr hbr hgb hcells hRA hRR hkk hkd hsr hur hu4 r0 r1 r3 r4 r5 r6 hky hfs hk1 hul hr hnl
     clear hkl
     generalize r.key.length=kn at *
     generalize (st.bk[k].r:Nat)=xr at *
     generalize st.bk[k].wt=xw at *
     have HKS:Hid (leanK rs st.bk n (k+1)=leanK rs st.bk n k++(if touchL (fstS rs n) (usAt st.bk k) then [k] else [])):=leanK_succ _ _ _ _
     have d0r:=(cell_below d0 HBW.out (Nat.le_refl _))
     obtain ⟨tb,htb⟩:∃ tb,touchL (fstS rs n) (usAt st.bk k)=tb:=⟨_,rfl⟩
     rw [htb] at HT HKS
     clear htb
     obtain ⟨W5,hW5⟩:∃ W5,W5=wr.alloc (.cells #[.int .i64 xr,.slice u1 u2 u3,.int .i64 xw] 163):=⟨_,rfl⟩
     have hG5:Grown wr W5:=by rw [hW5];exact (Grown.refl _).alloc _
     have p1:W5.cell? ⟨wr.heap.size,1,none⟩=some (.slice u1 u2 u3):=by rw [hW5];simp
     have f0:=fun m os=>(hG5.quiet m os).cellv d0r
     have f1:=fun m os=>(hG5.quiet m os).cellv r2
     have f2:=fun m os=>(hG5.quiet m os).cellv hs0
     have f3:=fun m os=>((Grown.refl W5).quiet m os).cellv p1
     have HQ:Hid (∀ m os,Grown wr (Go.Sort.grow (W5.drewN m) os)):=fun m os=>hG5.quiet m os
     go_wp2
     rw [show wr.alloc (.cells #[.int .i64 xr,.slice u1 u2 u3,.int .i64 xw] 163)=W5 from hW5.symm]
     clear hW5 d0r r2 hs0 p1 c0 c1 c2
     refine wp_region_quiet_grown mixed (by kernel_rfl) ?_
     repeat (go_big_quiet_step ((go_at_call 145;exact grown_of (HT.out _ (HQ.out _ _)))))
     refine wpQuiet_nil ?_
     intro _ hw'
     obtain ⟨⟨nq,osq⟩,hw''⟩:=hw'
     subst hw''
     obtain ⟨w6,hw6⟩:∃ w6,w6=Go.Sort.grow (W5.drewN nq) osq:=⟨_,rfl⟩
     have HG6:Hid (Grown wr w6):=by rw [hw6];exact HQ.out _ _
     rw [←hw6]
     clear hw6 HQ f0 f1 f2 f3 hG5 HT
     cases tb with
     | false=>
      have HO2:Hid (OwnI w6 W.heap.size u5 (toI (leanK rs st.bk n (k+1)))):=by
       rw [HKS.out]
       simp only [Bool.false_eq_true,if_false,List.append_nil]
       exact HO.out.below HG6.out.below (Nat.le_refl _)
      have HB2:Hid (Below W.heap.size W w6):=HBW.out.trans (HG6.out.below.mono HBW.out.size)
      go_wp2
      exact ⟨⟨k+1,by go_num,by omega,HO2,HB2⟩,by simp [intOf];omega⟩
     | true=>
      have HO2:Hid (∀ ob,OwnI (w6.alloc ob) W.heap.size u5 (toI (leanK rs st.bk n k))):=fun ob=>(HO.out.below HG6.out.below (Nat.le_refl _)).alloc ob
      have HB2:Hid (∀ ob,Below W.heap.size W (w6.alloc ob)):=fun ob=>(HBW.out.trans (HG6.out.below.mono HBW.out.size)).alloc (Nat.le_trans HBW.out.size HG6.out.size) _
      have hlen:(toI (leanK rs st.bk n k)).length≤4096:=by have:=leanK_len rs st.bk n k;simp only [toI,List.length_map];omega
      have HLE:Hid ((toI (leanK rs st.bk n k)).length≤4096):=hlen
      have HSZ:Hid (W.heap.size≤w6.heap.size):=Nat.le_trans HBW.out.size HG6.out.size
      clear hlen
      go_wp2_with (at_builtin;go_must (refine push_I rfl _ _ 25 rfl Tryz.underlying25 W.heap.size u5 (toI (leanK rs st.bk n k)) rfl (HO2.out _) w6.heap.size 1 k rfl (by simp) (by have:=HLE.out;omega) (by have:=HSZ.out;simp;omega) ?_;intro v' w7 hO7 hB7))
      have HO3:Hid (OwnI w7 W.heap.size v' (toI (leanK rs st.bk n (k+1)))):=by
       rw [HKS.out,toI_append]
       exact hO7
      exact ⟨⟨k+1,by go_num,by omega,HO3,(HB2.out _).trans hB7⟩,by simp [intOf];omega⟩
   · have hge:¬ (k:Int)<(nb:Int):=by omega
     have hkn:k=nb:=by omega
     have HV:Hid (LnR wr w0.heap.size ga u5 (leanL rs st.bk n)):=by
      have:=HO.out
      rw [hkn,←HNB.out,leanK_all] at this
      exact this.lnr HB.out.2 HB.out.1
     have hSr:=HS.out.below HBW.out
     obtain ⟨w8,hrun,hI,ht⟩:=hSr.lnm.store (by omega) Tryz.underlying96 hnI u5
     have d4r:=cell_below d4 HBW.out (Nat.le_refl _)
     have HF:Hid (LnR w8 w0.heap.size ga u5 (leanL rs st.bk n)∧Sc w8 w0 sp m1 ga m2 N1 (N2+1) (.slice ba nb bc) uvs (.slice ra nr rc) rs st (updM ln n u5)):=by
      obtain ⟨es,c,ho⟩:=hSr.lnm.isMap
      exact ⟨HV.out.turn ho (.inr (by simp)) (fun b hb=>turned_other ht hb),hSr.turn4 ht hI HV.out⟩
     clear hSr hI ht HV HO hkn
     go_wp2
     go_ret
     exact ⟨u5,rfl,HF.out.1,_,HF.out.2⟩
theorem foldl_succ {α β:Type} (f:β→α→β) (b:β) (l:List α) {k:Nat} (h:k<l.length):(l.take (k+1)).foldl f b=f ((l.take k).foldl f b) l[k]:=by
 rw [List.take_add_one,List.foldl_append,List.getElem?_eq_getElem h]
 rfl
theorem free_of {W:World} {B j:Nat} {cs:Array Value} {t:TypeId} (h:W.heap[B]? = some (.cells cs t (0,0))):W.frozen? ⟨B,j,none⟩=false:=by
 simp [World.frozen?,h]
set_option maxHeartbeats 8000000 in
theorem lift_any {W w0:World} {sp m1 ga m2 N1 N2:Nat} {bv:Value} {uvs:List Value} {rv:Value} {rs:List Rl} {st:St} {ln:Int→Option Value} {cs:List Int} {us:List (List (Int × Int))} (n:Nat) (hS:Sc W w0 sp m1 ga m2 N1 N2 bv uvs rv rs st ln) (hO:OkSt cs us st) (hcl:cs.length=rs.length) (hn:n<rs.length) (hK:Kok rs) (hu:∀ u∈us,u.length≤512) (hN1:N1<1000000) (hN:N2<1000000) (h1:at0 st.ws n<at0 st.aq n) (h2:at0 st.aq n≤64) :
 Calls Tryz.prog 101 #[.pointer (some ⟨sp,0,none⟩),.int .i64 n] W fun e w'=>∃ ln',e = .returned (.tuple #[])∧Sc w' w0 sp m1 ga m2 (N1+1) (N2+1) bv uvs rv rs (liftP rs n st) ln':=by
 have hnI:InI (n:Int):=⟨by omega,by have:=hK.n;omega⟩
 have hnc:n<cs.length:=by omega
 obtain ⟨x,hx⟩:∃ x,at0 st.aq n=x:=⟨_,rfl⟩
 have hw1:=(hO.wb n hnc).1
 have hna:n<st.aq.length:=by rw [hO.al];exact hnc
 have hnw:n<st.ws.length:=by rw [hO.wl];exact hnc
 -- the map's store
 obtain ⟨W1,hrun,hI,ht⟩:=hS.wm.store (by omega) Tryz.underlying81 hnI (.int .i64 x)
 rw [wsF_set hnw] at hI
 have hS1:=hS.turn1 ht hI
 have hO1:OkSt cs us ⟨st.ws.set n x,st.aq,st.bk⟩:=hO.setw hnc (by omega) (by omega)
 have HS1:Hid (Sc W1 w0 sp m1 ga m2 (N1+1) N2 bv uvs rv rs ⟨st.ws.set n x,st.aq,st.bk⟩ ln):=hS1
 have d1:W.cell? ⟨sp,1,none⟩=some (.map (some m1)):=by rw [cell_of hS.blk];simp
 have d2:W.cell? ⟨sp,2,none⟩=some (.slice (some ⟨ga,0,none⟩) st.aq.length st.aq.length):=by rw [cell_of hS.blk];simp
 have da:W.cell? ⟨ga,n,none⟩=some (.int .i64 x):=by rw [cell_of hS.asb,←hx];simp [ints,at0,hna]
 have HC:Hid (Calls Tryz.prog 121 #[.pointer (some ⟨sp,0,none⟩),.int .i64 n] W1 fun e w'=>∃ v ln',e = .returned v∧LnR w' w0.heap.size ga v (leanL rs st.bk n)∧Sc w' w0 sp m1 ga m2 (N1+1) (N2+1) bv uvs rv rs ⟨st.ws.set n x,st.aq,st.bk⟩ ln'):=
  leaning_any n hS1 hn hK (fun b hb=>hu _ (by rw [←hO.uss];exact List.mem_map_of_mem hb)) hO.pl hN
 have HP:Hid (liftP rs n st=(leanL rs st.bk n).foldl (bump x) ⟨st.ws.set n x,st.aq,st.bk⟩):=by show _=_;unfold liftP;rw [hx]
 have HO1:Hid (OkSt cs us ⟨st.ws.set n x,st.aq,st.bk⟩):=hO1
 have HX:Hid (1≤x∧x≤64):=⟨by omega,by omega⟩
 have hxb:(1:Int)≤x∧x≤64:=⟨by omega,by omega⟩
 obtain ⟨L,hL⟩:∃ L,leanL rs st.bk n=L:=⟨_,rfl⟩
 have HLB:Hid (∀ i∈L,i<st.bk.length):=fun i hi=>by
  rw [←hL] at hi
  unfold leanL at hi
  have:=(List.mem_filter.1 hi).1
  simpa using this
 have HLL:Hid (L.length≤4096):=by
  have:=leanK_len rs st.bk n st.bk.length
  rw [leanK_all,hL] at this
  exact Nat.le_trans this hO.pl
 rw [hL] at HC HP
 obtain ⟨na,hna'⟩:∃ na,st.aq.length=na:=⟨_,rfl⟩
 have HNA:Hid (st.aq.length=na):=hna'
 have HNC:Hid (cs.length=na):=by rw [←hna'];exact hO.al.symm
 have hnn:(n:Int)<(na:Int):=by omega
 have hn0:(0:Int)≤(n:Int):=by omega
 have hnaI:(na:Int)≤256:=by have:=hO.n;rw [←hO.al,hna'] at this;omega
 rw [hna'] at d2
 have HBK:Hid (∀ k,((L.take k).foldl (bump x) ⟨st.ws.set n x,st.aq,st.bk⟩).bk.length=st.bk.length):=fun k=>by
  have:=(OkSt.bumps x hxb.1 hxb.2 (L.take k) _ hO1).uss
  rw [←hO.uss] at this
  simpa using congrArg List.length this
 clear hS hO hS1 hO1 hI ht hna' hL hu hK hcl hw1 hna hnw h1 h2 hx
 go_enter Tryz.func101,Tryz.ntmps101
 go_wp2_with fail
 refine HC.out.mono ?_
 rintro e w2 ⟨v,ln2,rfl,hv,hS2⟩
 have HV:Hid (LnR w2 w0.heap.size ga v L):=hv
 have HS2:Hid (Sc w2 w0 sp m1 ga m2 (N1+1) (N2+1) bv uvs rv rs ((L.take 0).foldl (bump x) ⟨st.ws.set n x,st.aq,st.bk⟩) ln2):=hS2
 obtain ⟨la,lc,rfl,_,_⟩:=hv
 obtain ⟨nl,hnl⟩:∃ nl,L.length=nl:=⟨_,rfl⟩
 have HNL:Hid (L.length=nl):=hnl
 rw [hnl] at HV ⊢
 have hnlI:(nl:Int)≤4096:=by have:=HLL.out;omega
 clear hS2 hnl HS1 HC
 go_wp2
 go_loopw [25] (fun vi wr=>∃ k:Nat,vi = .int .i64 k∧k≤nl∧Hid (LnR wr w0.heap.size ga (.slice la nl lc) L)∧Hid (Sc wr w0 sp m1 ga m2 (N1+1) (N2+1) bv uvs rv rs ((L.take k).foldl (bump x) ⟨st.ws.set n x,st.aq,st.bk⟩) ln2)) (fun vi _=>nl - (intOf vi).toNat)
 case atStart=>exact ⟨0,rfl,by omega,HV,HS2⟩
 case round=>
  obtain ⟨k,rfl,hk,HVr,HSr⟩:=hrel
  clear HV HS2
  have hk0:(0:Int)≤(k:Int):=by omega
  by_cases hlt:k<nl
  · have hlt':(k:Int)<(nl:Int):=by omega
    have hkl:k<L.length:=by rw [HNL.out];exact hlt
    have HFS:Hid ((L.take (k+1)).foldl (bump x) ⟨st.ws.set n x,st.aq,st.bk⟩=bump x ((L.take k).foldl (bump x) ⟨st.ws.set n x,st.aq,st.bk⟩) L[k]):=foldl_succ _ _ _ hkl
    have hOk:=OkSt.bumps x HX.out.1 HX.out.2 (L.take k) _ HO1.out
    have hbl:=HBK.out k
    have hib:L[k]<st.bk.length:=HLB.out _ (List.getElem_mem hkl)
    obtain ⟨sk,hsk⟩:∃ sk,(L.take k).foldl (bump x) ⟨st.ws.set n x,st.aq,st.bk⟩=sk:=⟨_,rfl⟩
    rw [hsk] at HFS HSr hOk hbl
    obtain ⟨a',c',e',_,hlr⟩:=HVr.out
    obtain ⟨g,lcs,lm,ha',_,hgn,hgl,hcell⟩:=hlr.resolve_left (fun e=>by rw [e] at hkl;simp at hkl)
    have c0:=hcell k hkl
    obtain ⟨i,hi⟩:∃ i,L[k]=i:=⟨_,rfl⟩
    rw [hi] at HFS hib c0
    have hSr:=HSr.out
    have hi2:i<sk.bk.length:=by omega
    have hub:i<uvs.length:=by rw [hSr.bkr.1];exact hi2
    obtain ⟨b,hb⟩:∃ b,sk.bk[i]? = some b:=⟨_,List.getElem?_eq_getElem hi2⟩
    have hbi:=(List.getElem?_eq_some_iff.1 hb).2
    obtain ⟨_,ba,bc,hbv,_,hbr⟩:=hSr.bkr
    obtain ⟨gb,bcs,hba,hgb0,hgb,hbc⟩:=hbr.resolve_left (fun e=>by rw [e] at hi2;simp at hi2)
    obtain ⟨x0,x1,x2⟩:=hbc i hi2 hub
    rw [hbi] at x0 x2
    have hpb:=hOk.pb b (List.mem_of_getElem? hb)
    have hab:=hOk.ab hpb.1
    have hal:sk.aq.length=na:=by rw [hOk.al];exact HNC.out
    have y2:wr.cell? ⟨sp,2,none⟩=some (.slice (some ⟨ga,0,none⟩) na na):=by rw [cell_of hSr.blk];simp [hal]
    have y3:wr.cell? ⟨sp,3,none⟩=some bv:=by rw [cell_of hSr.blk];simp
    have hbra:b.r<sk.aq.length:=by rw [hOk.al];exact hpb.1
    have ya:wr.cell? ⟨ga,b.r,none⟩=some (.int .i64 (at0 sk.aq b.r)):=by rw [cell_of hSr.asb];simp [ints,at0,hbra]
    have hin:(i:Int)<(sk.bk.length:Int):=by omega
    have hi0:(0:Int)≤(i:Int):=by omega
    have hblI:(sk.bk.length:Int)≤4096:=by have:=hOk.pl;omega
    have hrn:(b.r:Int)<(na:Int):=by have:=HNC.out;omega
    have hr0:(0:Int)≤(b.r:Int):=by omega
    have HSA:Hid (∀ W',Grown wr W'→Sc W' w0 sp m1 ga m2 (N1+1) (N2+1) bv uvs rv rs sk ln2):=fun W' h=>hSr.grown h
    have HVA:Hid (∀ W',Grown wr W'→LnR W' w0.heap.size ga (.slice la nl lc) L):=fun W' h=>HVr.out.below h.below
    have HB:Hid (sk.bk[i]? = some b):=hb
    have HBV:Hid (bv = .slice ba sk.bk.length bc):=hbv
    have HGB:Hid (ba=some ⟨gb,0,none⟩):=hba
    rw [hbv,hba] at y3
    obtain ⟨nbk,hnbk⟩:∃ nbk,sk.bk.length=nbk:=⟨_,rfl⟩
    rw [hnbk] at y3 hin hblI
    injection e' with e1 e2 e3
    clear e2 e3
    rw [ha'] at e1
    subst e1
    obtain ⟨br,hbr'⟩:∃ br,b.r=br:=⟨_,rfl⟩
    obtain ⟨bw,hbw⟩:∃ bw,b.wt=bw:=⟨_,rfl⟩
    obtain ⟨aa,haa⟩:∃ aa,at0 sk.aq b.r=aa:=⟨_,rfl⟩
    have HBR:Hid (b.r=br∧b.wt=bw∧at0 sk.aq br=aa):=⟨hbr',hbw,by rw [←hbr'];exact haa⟩
    rw [haa] at ya hab
    rw [hbr'] at x0 hrn hr0 ya
    rw [hbw] at x2 hpb
    have hbwb:=hpb.2
    have hxb2:=HX.out
    have HGO:Hid (∃ cs,wr.heap[gb]? = some (.cells cs 163 (0,0))):=⟨_,hgb⟩
    have HGA:Hid (ga≠gb):=ne_obj hSr.asb hgb (by simp)
    have z1:wr.frozen? ⟨ga,br,none⟩=false:=free_of hSr.asb
    have z2:∀ u,(wr.setCell ⟨ga,br,none⟩ u).frozen? ⟨gb,i*3+2,none⟩=false:=fun u=>free_of ((turns_set wr ga br u gb (HGA.out ∘ Eq.symm)).trans hgb)
    have z3:∀ u,(wr.setCell ⟨ga,br,none⟩ u).cell? ⟨gb,i*3+2,none⟩=some (.int .i64 bw):=fun u=>(cell_same (turns_set wr ga br u gb (HGA.out ∘ Eq.symm))).trans x2
    clear hSr hOk hbl hsk hlr hgl hcell hi hbi hbr hbc hb hbv hba hpb hal hbra hbr' hbw haa hnbk hub hib hi2 x1 ha' hgb hgb0
    by_cases hcmp:bw<x
    · as_aux_lemma=>
       have HE:Hid (bump x sk i=⟨sk.ws,sk.aq.set br (aa+(x - bw)),sk.bk.set i ⟨b.r,b.us,x⟩⟩):=by
        show _=_
        unfold bump
        rw [HB.out]
        simp only
        rw [if_pos (by rw [HBR.out.2.1];exact hcmp),HBR.out.1,HBR.out.2.1,HBR.out.2.2]
       have HF:Hid (Sc ((wr.setCell ⟨ga,br,none⟩ (.int .i64 (aa+(x - bw)))).setCell ⟨gb,i*3+2,none⟩ (.int .i64 x)).drew w0 sp m1 ga m2 (N1+1) (N2+1) bv uvs rv rs ((L.take (k+1)).foldl (bump x) ⟨st.ws.set n x,st.aq,st.bk⟩) ln2):=by
        show Sc _ _ _ _ _ _ _ _ _ _ _ _ _ _
        rw [HFS.out,HE.out]
        have t2:=HSr.out.turn2 br (aa+(x - bw))
        have t3:=t2.turn3 (i:=i) (by rw [HBV.out,HGB.out]) HB.out x
        exact t3.grown (Grown.refl _).drew
       have HVF:Hid (LnR ((wr.setCell ⟨ga,br,none⟩ (.int .i64 (aa+(x - bw)))).setCell ⟨gb,i*3+2,none⟩ (.int .i64 x)).drew w0.heap.size ga (.slice (some ⟨g,0,none⟩) nl lc) L):=by
        have v1:=HVr.out.turn HSr.out.asb (.inl rfl) (turns_set wr ga br (.int .i64 (aa+(x - bw))))
        have v2:=v1.turn ((turns_set wr ga br (.int .i64 (aa+(x - bw))) gb (HGA.out ∘ Eq.symm)).trans HGO.out.choose_spec) (.inr (by simp)) (turns_set _ gb (i*3+2) (.int .i64 x))
        exact v2.below (Grown.refl _).drew.below
       clear HE HFS HSA HVA HVr HSr HGO
       go_wp2
       go_region
       go_wp2
       exact ⟨⟨k+1,by go_num,by omega,HVF,HF⟩,by simp [intOf];omega⟩
    · as_aux_lemma=>
       have HE:Hid (bump x sk i=sk):=by
        show _=_
        unfold bump
        rw [HB.out]
        simp only
        rw [if_neg (by rw [HBR.out.2.1];exact hcmp)]
       have hS3:Hid (Sc wr w0 sp m1 ga m2 (N1+1) (N2+1) bv uvs rv rs ((L.take (k+1)).foldl (bump x) ⟨st.ws.set n x,st.aq,st.bk⟩) ln2):=by
        show Sc _ _ _ _ _ _ _ _ _ _ _ _ _ _
        rw [HFS.out,HE.out];exact HSr.out
       clear HFS HE
       go_wp2
       exact ⟨⟨k+1,by go_num,by omega,HVr,hS3⟩,by simp [intOf];omega⟩
  · have hge:¬ (k:Int)<(nl:Int):=by omega
    have hS3:Hid (Sc wr w0 sp m1 ga m2 (N1+1) (N2+1) bv uvs rv rs (liftP rs n st) ln2):=by
     show Sc _ _ _ _ _ _ _ _ _ _ _ _ _ _
     have:=HSr.out
     rw [List.take_of_length_le (by rw [HNL.out];omega)] at this
     rw [HP.out];exact this
    clear HSr
    go_wp2
    exact bodyPost_end (v := .tuple #[]) (by simp [results,Tryz.f101,go_sem]) rfl ⟨rfl,ln2,hS3.out⟩
def cpW:List Bool→List Pc→Bool
 | _,[]=>false
 | c,p::l=>if p.k≠2 then cpW c l else if (c[p.y.toNat]?).getD false then true else cpW (c.set p.y.toNat true) l
def copB (r:Rl):Bool:=cpW (true::List.replicate 7 false) (backP r)
def bools (l:List Bool):List Value:=l.map fun x => .bool x
theorem drop_pl {ps:List Pc} {k:Nat} (h:k<ps.length):ps.drop k=ps[k]::ps.drop (k+1):=List.drop_eq_getElem_cons h
set_option maxHeartbeats 4000000 in
theorem copies_any (r:Rl) (av kv pv rv:Value) (w:World) (h:RR w av kv pv rv r) (hO:Ok r):Calls Tryz.prog 74 #[.agg #[.bool r.bg,av,kv,pv,.bool r.en,rv,.int .i64 r.cu]] w fun e w'=>e = .returned (.bool (copB r))∧Below w.heap.size w w':=by
 have HPB:Hid (∀ wx,Calls Tryz.prog 99 #[.agg #[.bool r.bg,av,kv,pv,.bool r.en,rv,.int .i64 r.cu]] wx fun e w'=>∃ v,e = .returned v∧PR w v (backP r)∧Grown wx w'):=fun wx=>putBack_any r av kv pv rv wx w h hO.c0 hO.c1
 have HY:Hid (∀ p∈backP r,p.k=2→0≤p.y∧p.y<8):=fun p hp hk=>by
  have h1:=pc_ok (hO.pc p (List.mem_of_mem_drop hp))
  have h2:=hO.k8
  rcases h1 with ⟨h1,_⟩ | ⟨_,_,_,h3,h4⟩ | ⟨h1,_⟩
  · omega
  · omega
  · omega
 have HL:Hid ((backP r).length≤16):=by have:=hO.r16;simp [Hid,backP];omega
 obtain ⟨a1,n1,c1,rfl⟩:=h.a.sl
 obtain ⟨a2,n2,c2,rfl⟩:=h.k.sl
 obtain ⟨a3,n3,c3,rfl⟩:=h.p.sl
 obtain ⟨a5,n5,c5,rfl⟩:=h.r.sl
 obtain ⟨R,hR⟩:∃ R,copB r=R:=⟨_,rfl⟩
 have HR:Hid (cpW (true::List.replicate 7 false) ((backP r).drop 0)=R):=hR
 rw [hR]
 obtain ⟨xb,hxb⟩:∃ xb,r.bg=xb:=⟨_,rfl⟩
 obtain ⟨xe,hxe⟩:∃ xe,r.en=xe:=⟨_,rfl⟩
 obtain ⟨xc,hxc⟩:∃ xc,r.cu=xc:=⟨_,rfl⟩
 rw [hxb,hxe,hxc] at HPB ⊢
 clear hR hxb hxe hxc h hO
 go_enter Tryz.func74,Tryz.ntmps74
 go_wp2_with fail
 refine (HPB.out _).mono ?_
 rintro e w2 ⟨v,rfl,hPR,hG2⟩
 have HPR:Hid (PR w v (backP r)):=hPR
 have HC0:Hid (w2.heap[w.heap.size+1]? = some (.cells (bools (true::List.replicate 7 false)).toArray 156 (0,0))∧Below w.heap.size w w2):=by
  refine ⟨?_,(((Grown.refl w).alloc _).alloc _).below.trans (hG2.below.mono (((Grown.refl w).alloc _).alloc _).size)⟩
  rw [hG2.below.block (w.heap.size+1) (by simp)]
  have e:=heap_alloc_new (w.alloc (.cells #[.bool xb,.slice a1 n1 c1,.slice a2 n2 c2,.slice a3 n3 c3,.bool xe,.slice a5 n5 c5,.int .i64 xc] 61)) (.cells #[.bool true,.bool false,.bool false,.bool false,.bool false,.bool false,.bool false,.bool false] 156)
  simpa [bools,List.replicate] using e
 obtain ⟨pa,pc,rfl,_,_⟩:=hPR
 obtain ⟨nb,hnb⟩:∃ nb,(backP r).length=nb:=⟨_,rfl⟩
 have HNB:Hid ((backP r).length=nb):=hnb
 rw [hnb] at HPR HL ⊢
 have hnbI:(nb:Int)≤16:=by have:=HL.out;omega
 clear hnb hG2 HPB
 go_wp2
 have HBS0:Hid (w.heap.size≤w.heap.size+1):=Nat.le_succ _
 generalize w.heap.size+1=B at HC0 HBS0 ⊢
 have HBS:Hid (w.heap.size≤B):=HBS0.out
 go_loopw [10] (fun vi wr=>∃ (k:Nat) (c:List Bool),vi = .int .i64 k∧k≤nb∧Hid (cpW c ((backP r).drop k)=R∧c.length=8∧wr.heap[B]? = some (.cells (bools c).toArray 156 (0,0))∧Below w.heap.size w wr)) (fun vi _=>nb - (intOf vi).toNat)
 case atStart=>exact ⟨0,_,rfl,by omega,HR.out,by simp,HC0.out.1,HC0.out.2⟩
 case round=>
  obtain ⟨k,c,rfl,hk,H⟩:=hrel
  clear HC0 HR
  have hk0:(0:Int)≤(k:Int):=by omega
  by_cases hlt:k<nb
  · have hlt':(k:Int)<(nb:Int):=by omega
    have hkb:k<(backP r).length:=by rw [HNB.out];exact hlt
    obtain ⟨hcp,hc8,hB,hbel⟩:=H.out
    clear H
    obtain ⟨a',c',e',_,hPr⟩:=HPR.out
    obtain ⟨pg,po,ha',hPd⟩:=hPr.resolve_left (fun e=>by rw [e] at hkb;simp at hkb)
    injection e' with e1 e2 e3
    clear e2 e3
    rw [ha'] at e1
    subst e1
    have hPA:=hPd k hkb
    rw [drop_pl hkb] at hcp
    have hy:=HY.out _ (List.getElem_mem hkb)
    obtain ⟨p,hp⟩:∃ p,(backP r)[k]=p:=⟨_,rfl⟩
    rw [hp] at hPA hcp hy
    obtain ⟨tv,x0,x1,x2,x3,hRs⟩:=hPA
    have y0:=cell_below x0 hbel (Nat.le_refl _)
    have y1:=cell_below x1 hbel (Nat.le_refl _)
    have y2:=cell_below x2 hbel (Nat.le_refl _)
    have y3:=cell_below x3 hbel (Nat.le_refl _)
    obtain ⟨ta,tn,tc,rfl⟩:=hRs.sl
    have HBL:Hid (∀ ob,Below w.heap.size w (wr.alloc ob)):=fun ob=>hbel.trans (((Grown.refl wr).alloc ob).below.mono hbel.size)
    have hBa:∀ ob,(wr.alloc ob).heap[B]? = some (.cells (bools c).toArray 156 (0,0)):=fun ob=>(((Grown.refl wr).alloc ob).below.block B (Array.getElem?_eq_some_iff.1 hB).1).trans hB
    have HBA:Hid (∀ ob,(wr.alloc ob).heap[B]? = some (.cells (bools c).toArray 156 (0,0))):=hBa
    unfold cpW at hcp
    obtain ⟨pk,hpk⟩:∃ pk,p.k=pk:=⟨_,rfl⟩
    obtain ⟨py,hpy⟩:∃ py,p.y=py:=⟨_,rfl⟩
    generalize p.u=pu at y1
    rw [hpk] at y0 hcp hy
    rw [hpy] at y2 hcp hy
    clear hPr ha' hPd hRs hp x0 x1 x2 x3 hpk hpy
    by_cases h2:pk=2
    · subst h2
      obtain ⟨q0,q8⟩:=hy rfl
      rw [if_neg (by simp)] at hcp
      obtain ⟨y,rfl⟩:∃ y:Nat,py=y:=⟨py.toNat,by omega⟩
      have hyc:y<c.length:=by omega
      rw [show ((y:Nat):Int).toNat=y by omega,List.getElem?_eq_getElem hyc] at hcp
      simp only [Option.getD_some] at hcp
      have cy:∀ ob,(wr.alloc ob).cell? ⟨B,y,none⟩=some (.bool c[y]):=fun ob=>by rw [cell_of (hBa ob)];simp [bools,hyc]
      have fy:∀ ob,(wr.alloc ob).frozen? ⟨B,y,none⟩=false:=fun ob=>free_of (hBa ob)
      obtain ⟨cb,hcb⟩:∃ cb,c[y]=cb:=⟨_,rfl⟩
      rw [hcb] at cy hcp
      cases cb with
      | true=>
       as_aux_lemma=>
        have HF:Hid (R=true):=by show R=true;simpa using hcp.symm
        clear hcp hB hBa HBA hcb hy hbel
        go_wp2
        go_ret
        have hrt:=HF.out
        exact ⟨by first | rfl | (rw [hrt];rfl),HBL.out _⟩
      | false=>
       as_aux_lemma=>
        have HF:Hid (cpW (c.set y true) ((backP r).drop (k+1))=R):=by show cpW _ _=R;simpa using hcp
        clear hcp hB hBa hcb hy hbel
        go_wp2
        exact ⟨⟨k+1,c.set y true,by go_num,by omega,HF.out,by simpa using hc8,by rw [set_heap (HBA.out _)];simp [bools,List.map_set],(HBL.out _).setCell (p:=⟨B,y,none⟩) (by have:=HBS.out;omega) _⟩,by simp [intOf];omega⟩
    · as_aux_lemma=>
       have h2':(pk != 2)=true:=by simpa using h2
       have HF:Hid (cpW c ((backP r).drop (k+1))=R):=by rw [if_pos h2] at hcp;exact hcp
       clear hcp hB hBa hy hbel
       go_wp2
       exact ⟨⟨k+1,c,by go_num,by omega,HF.out,hc8,HBA.out _,HBL.out _⟩,by simp [intOf];omega⟩
  · as_aux_lemma=>
     have hge:¬ (k:Int)<(nb:Int):=by omega
     obtain ⟨hcp,_,_,hbel⟩:=H.out
     rw [List.drop_eq_nil_of_le (by rw [HNB.out];omega),cpW] at hcp
     have HF:Hid (R=false∧Below w.heap.size w wr):=⟨hcp.symm,hbel⟩
     clear H hcp hbel
     go_wp2
     go_ret
     have hrt:=HF.out.1
     exact ⟨by first | rfl | (rw [hrt];rfl),HF.out.2⟩
def fb1 (b:Pb) (u:Value):List Value:=[.int .i64 (b.r:Nat),u,.int .i64 b.wt]
def fbk:List Pb→List Value→List Value
 | b::l,u::us=>fb1 b u++fbk l us
 | _,_=>[]
theorem fbk_snoc:∀ (l:List Pb) (us:List Value) (b:Pb) (u:Value),us.length=l.length→fbk (l++[b]) (us++[u])=fbk l us++fb1 b u
 | [],[],b,u,_=>by simp [fbk]
 | [],_::_,_,_,h=>by simp at h
 | _::_,[],_,_,h=>by simp at h
 | c::l,v::us,b,u,h=>by
  have:=fbk_snoc l us b u (by simpa using h)
  simp only [List.cons_append,fbk,this,List.append_assoc]
theorem fbk_at:∀ (l:List Pb) (us:List Value) (j:Nat) (h:j<l.length) (h':j<us.length),(fbk l us)[j*3]? = some (.int .i64 (l[j].r:Nat))∧(fbk l us)[j*3+1]? = some us[j]∧(fbk l us)[j*3+2]? = some (.int .i64 l[j].wt)
 | [],_,j,h,_=>by simp at h
 | _::_,[],j,_,h=>by simp at h
 | b::l,u::us,0,_,_=>by simp [fbk,fb1]
 | b::l,u::us,j+1,h,h'=>by
  have:=fbk_at l us j (by simpa using h) (by simpa using h')
  rw [show (j+1)*3=j*3+3 by omega]
  simpa [fbk,fb1] using this
def BKo (W:World) (base:Nat) (v:Value) (bk:List Pb) (uvs:List Value):Prop:=uvs.length=bk.length∧W.ownsRow base 163 3 v bk.length (fbk bk uvs)
theorem BKo.bk {W:World} {base:Nat} {v:Value} {bk:List Pb} {uvs:List Value} (h:BKo W base v bk uvs):BK W base v bk uvs:=by
 obtain ⟨h0,h⟩:=h
 have hc := @World.ownsRow.cells
 rcases h.2 with ⟨rfl,h1⟩ | ⟨g,cap,cur,rfl,h1,h2,h3,_⟩
 · have hb:bk=[]:=List.eq_nil_of_length_eq_zero h1
   subst hb
   exact ⟨h0,none,0,rfl,Nat.le_refl _,.inl rfl⟩
 · refine ⟨h0,_,cap,rfl,h3,.inr ⟨g,cur,rfl,h1,h2,fun j hj hj' => ?_⟩⟩
   obtain ⟨a1,a2,a3⟩:=fbk_at bk uvs j hj hj'
   have b1:=World.ownsRow.cells h rfl _ _ a1
   have b2:=World.ownsRow.cells h rfl _ _ a2
   have b3:=World.ownsRow.cells h rfl _ _ a3
   rw [add_zero_at] at b1 b2 b3
   exact ⟨b1,b2,b3⟩
theorem BKo.turn {W W':World} {base B:Nat} {v:Value} {bk:List Pb} {uvs:List Value} {o:Obj} (h:BKo W base v bk uvs) (ho:W.heap[B]? = some o) (hn:∀ cs m,o ≠ .cells cs 163 m) (k:Turns B W W'):BKo W' base v bk uvs:=by
 refine ⟨h.1,h.2.1,?_⟩
 rcases h.2.2 with h | ⟨g,cap,cur,e1,h1,h2,h3⟩
 · exact .inl h
 · exact .inr ⟨g,cap,cur,e1,h1,(k g (ne_obj h2 ho (fun e=>hn cur _ e.symm))).trans h2,h3⟩
theorem BKo.below {W W':World} {base:Nat} {v:Value} {bk:List Pb} {uvs:List Value} (h:BKo W base v bk uvs) (hb:Below W.heap.size W W'):BKo W' base v bk uvs:=by
 refine ⟨h.1,h.2.1,?_⟩
 rcases h.2.2 with h | ⟨g,cap,cur,e1,h1,h2,h3⟩
 · exact .inl h
 · exact .inr ⟨g,cap,cur,e1,h1,(hb.block g (Array.getElem?_eq_some_iff.1 h2).1).trans h2,h3⟩
theorem BKo.row {W:World} {base:Nat} {v:Value} {bk:List Pb} {uvs:List Value} (h:BKo W base v bk uvs) {b:Nat} (hb:v.ownBlock=some b):base≤b∧∃ cs,W.heap[b]? = some (.cells cs 163 (0,0)):=by
 rcases h.2.2 with ⟨rfl,_⟩ | ⟨g,cap,cur,rfl,h1,h2,_⟩
 · simp [Value.ownBlock] at hb
 · simp [Value.ownBlock] at hb
   subst hb
   exact ⟨h1,cur,h2⟩
theorem UR.keep {W W':World} {base:Nat} {v:Value} {l:List (Int × Int)} (h:UR W base v l) (hk:∀ g,g<W.heap.size→(g<base∨∃ cs m,W.heap[g]? = some (.cells cs 55 m))→W'.heap[g]? = W.heap[g]?):UR W' base v l:=by
 obtain ⟨a,cap,h1,h2,h3⟩:=h
 refine ⟨a,cap,h1,h2,?_⟩
 by_cases hl:l=[]
 · exact .inl hl
 · obtain ⟨g,o,h4,h5,h6⟩:=h3.resolve_left hl
   have he:=hk g (h5.lt hl) h6
   refine .inr ⟨g,o,h4,fun j hj => ?_,h6.imp id fun ⟨cs,m,h6⟩=>⟨cs,m,he.trans h6⟩⟩
   rw [cell_same he,cell_same he]
   exact h5 j hj
section
variable {W W1 w0:World} {sp m1 ga m2 N1 N2:Nat} {bv:Value} {uvs:List Value} {rv:Value} {rs:List Rl} {st:St} {ln:Int→Option Value}
theorem Sc.turn5 (h:Sc W w0 sp m1 ga m2 N1 N2 bv uvs rv rs st (fun _=>none)) (ho:BKo W w0.heap.size bv st.bk uvs) {g cap n:Nat} {b:Pb} {uv:Value} (hn:st.bk.length=n) (hown:W1.ownsRow w0.heap.size 163 3 (.slice (some ⟨g,0,none⟩) (n+1) cap) (n+1) (fbk st.bk uvs++fb1 b uv)) (hgr:W.grownBy W1 bv.ownBlock) (hu:UR W w0.heap.size uv b.us) :
 Sc (W1.setCell ⟨sp,3,none⟩ (.slice (some ⟨g,0,none⟩) (n+1) cap)) w0 sp m1 ga m2 N1 N2 (.slice (some ⟨g,0,none⟩) (n+1) cap) (uvs++[uv]) rv rs ⟨st.ws,st.aq,st.bk++[b]⟩ (fun _=>none)∧BKo (W1.setCell ⟨sp,3,none⟩ (.slice (some ⟨g,0,none⟩) (n+1) cap)) w0.heap.size (.slice (some ⟨g,0,none⟩) (n+1) cap) (st.bk++[b]) (uvs++[uv])∧Below w0.heap.size W1 (W1.setCell ⟨sp,3,none⟩ (.slice (some ⟨g,0,none⟩) (n+1) cap)):=by
 have hk:∀ {x:Nat} {o:Obj},W.heap[x]? = some o→(∀ cs m,o ≠ .cells cs 163 m)→W1.heap[x]? = some o:=fun {x o} hx hne=>by
  refine (hgr.block x (Array.getElem?_eq_some_iff.1 hx).1 (fun e => ?_)).trans hx
  obtain ⟨_,cs,hc⟩:=ho.row e.symm
  rw [hx] at hc
  injection hc with hc
  exact hne _ _ hc
 have hB1:Below w0.heap.size W W1:=(Below.refl _ W).grown hgr h.bel.size (fun x hx=>(ho.row hx).1)
 have hblk:=hk h.blk (by simp)
 obtain ⟨es,c,ho1⟩:=h.wm.isMap
 obtain ⟨es2,c2,ho2⟩:=h.lnm.isMap
 have hk1:=hk ho1 (by simp)
 have hk2:=hk ho2 (by simp)
 have hka:=hk h.asb (by simp)
 have ht:=turns_set W1 sp 3 (.slice (some ⟨g,0,none⟩) (n+1) cap)
 have e1:m1≠sp:=ne_obj hk1 hblk (by simp)
 have e2:m2≠sp:=ne_obj hk2 hblk (by simp)
 have e3:ga≠sp:=ne_obj hka hblk (by simp)
 have hbl:(st.bk++[b]).length=n+1:=by simp [hn]
 have hBK1:BKo W1 w0.heap.size (.slice (some ⟨g,0,none⟩) (n+1) cap) (st.bk++[b]) (uvs++[uv]):=by
  refine ⟨by simp [ho.1],?_⟩
  rw [hbl,fbk_snoc _ _ _ _ ho.1]
  exact hown
 have hBK:=hBK1.turn hblk (by simp) ht
 have hur:∀ {v:Value} {l:List (Int × Int)},UR W w0.heap.size v l→UR (W1.setCell ⟨sp,3,none⟩ (.slice (some ⟨g,0,none⟩) (n+1) cap)) w0.heap.size v l:=fun {v l} hv=>by
  have h1:UR W1 w0.heap.size v l:=hv.keep (fun x hx hc=>by
   refine hgr.block x hx (fun e => ?_)
   obtain ⟨hb,cs,hcs⟩:=ho.row e.symm
   rcases hc with hc | ⟨cs',m,hc⟩
   · omega
   · rw [hc] at hcs;simp at hcs)
  exact h1.turn h.bsp hblk (by simp) ht
 refine ⟨⟨?_,(h.bel.trans hB1).setCell h.bsp _,h.rul,h.bsp,h.bm1,h.bga,h.bm2,h.m12,h.wm.kept (fun o hb=>(ht _ e1).trans (by rw [ho1] at hb;cases hb;exact hk1)),(ht _ e3).trans hka,hBK.bk,fun j hj hj' => ?_,h.lnm.kept (fun o hb=>(ht _ e2).trans (by rw [ho2] at hb;cases hb;exact hk2)),fun k v e=>by cases e⟩,hBK,(Below.refl _ _).setCell h.bsp _⟩
 · rw [set_heap hblk];simp
 · by_cases hlt:j<st.bk.length
   · rw [List.getElem_append_left hlt,List.getElem_append_left (by rw [ho.1];exact hlt)]
     exact hur (h.urs j hlt (by rw [ho.1];exact hlt))
   · have hje:j=st.bk.length:=by simp at hj;omega
     subst hje
     rw [List.getElem_append_right (Nat.le_refl _),List.getElem_append_right (by rw [ho.1];exact Nat.le_refl _)]
     simpa using hur hu
end
theorem make_zero (n:Nat) (hn:n≤1000000) (W:World):(Instr.makeSlice 25 (.int .i64 n) (.int .i64 n)).run Tryz.prog W = .ok (.slice (some ⟨W.heap.size,0,none⟩) n n) (W.alloc (.cells (ints (List.replicate n 0)).toArray 3)):=by
 obtain ⟨i0,hi,hz0,hz1,hz2⟩:=info_parts iinfo3
 have h:=run_make (P:=Tryz.prog) W 25 3 i0 (.int .i64 0) Tryz.underlying25 hi hz0 .i64 .i64 (n:Int) (n:Int) (by omega) (Int.le_refl _) (by rw [hz2];omega) (by omega)
 rw [h,show (n:Int).toNat=n by omega,hz1,Nat.mul_one]
 congr 3
 rw [←Array.toList_inj]
 show (madeCells #[.int .i64 0] n).toList=_
 rw [toList_madeCells_one]
 simp [ints]
def stK (rs:List Rl) (k:Nat):St:=⟨List.replicate k 1,(rs.take k).map askI++List.replicate (rs.length - k) 0,bkI rs k⟩
def aqJ (rs:List Rl) (k:Nat) (x:Int):List Int:=(rs.take k).map askI++x::List.replicate (rs.length - (k+1)) 0
def stJ (rs:List Rl) (k j:Nat) (r:Rl):St:=⟨List.replicate (k+1) 1,aqJ rs k (2 - (r.key.length:Int)+(j:Nat)),bkI rs k++pbs k ((backP r).take j)⟩
theorem take_len {rs:List Rl} {k:Nat} (h:k<rs.length):((rs.take k).map askI).length=k:=by simp;omega
theorem aqJ_len {rs:List Rl} {k:Nat} (h:k<rs.length) (x:Int):(aqJ rs k x).length=rs.length:=by
 unfold aqJ
 rw [List.length_append,take_len h]
 simp
 omega
theorem aqJ_set {rs:List Rl} {k:Nat} (h:k<rs.length) (x y:Int):(aqJ rs k x).set k y=aqJ rs k y:=by
 unfold aqJ
 rw [List.set_append_right k y (by rw [take_len h];exact Nat.le_refl _),take_len h]
 simp
theorem aqJ_at {rs:List Rl} {k:Nat} (h:k<rs.length) (x:Int):(aqJ rs k x)[k]? = some x:=by
 unfold aqJ
 rw [List.getElem?_append_right (by rw [take_len h];exact Nat.le_refl _),take_len h]
 simp
theorem stK_set {rs:List Rl} {k:Nat} (h:k<rs.length) (x:Int):(stK rs k).aq.set k x=aqJ rs k x:=by
 unfold stK aqJ
 simp only
 rw [show rs.length - k=(rs.length - (k+1))+1 by omega,List.replicate_succ,List.set_append_right k x (by rw [take_len h];exact Nat.le_refl _),take_len h]
 simp
theorem stK_len {rs:List Rl} {k:Nat} (h:k≤rs.length):(stK rs k).aq.length=rs.length:=by
 unfold stK
 simp
 omega
theorem stJ_end {rs:List Rl} {k:Nat} (h:k<rs.length):stJ rs k (backP rs[k]).length rs[k]=stK rs (k+1):=by
 unfold stJ stK aqJ
 have h1:(rs.take (k+1)).map askI=(rs.take k).map askI++[askI rs[k]]:=by
  rw [List.take_add_one,List.map_append,List.getElem?_eq_getElem h]
  rfl
 rw [h1,List.take_of_length_le (Nat.le_refl _)]
 congr 1
 · simp [askI]
 · rw [bkI,List.getElem?_eq_getElem h]
   rfl
theorem stJ_start {rs:List Rl} {k:Nat} (r:Rl):stJ rs k 0 r=⟨List.replicate k 1++[1],aqJ rs k (2 - (r.key.length:Int)),(stK rs k).bk⟩:=by
 unfold stJ stK
 simp [pbs,List.replicate_succ']
theorem stJ_bk {rs:List Rl} {k j:Nat} {r:Rl} (hj:j<(backP r).length):(stJ rs k (j+1) r).bk=(stJ rs k j r).bk++(if (backP r)[j].k=2 then [] else [⟨k,mayB (backP r)[j],1⟩]):=by
 unfold stJ
 simp only
 rw [List.take_add_one,List.getElem?_eq_getElem hj,List.append_assoc]
 congr 1
 exact pbs_snoc _ _ _
theorem info121:(Tryz.prog.info? 163).map (fun i=>(i.zero,i.size,i.bytes))=some (some (.agg #[.int .i64 0,.slice none 0 0,.int .i64 0]),3,40):=by kernel_rfl
theorem Sc.sp_grown {W W1 w0:World} {sp m1 ga m2 N1 N2:Nat} {bv:Value} {uvs:List Value} {rv:Value} {rs:List Rl} {st:St} {ln:Int→Option Value} (h:Sc W w0 sp m1 ga m2 N1 N2 bv uvs rv rs st ln) (ho:BKo W w0.heap.size bv st.bk uvs) (hgr:W.grownBy W1 bv.ownBlock):W1.heap[sp]? = some (.cells #[rv,.map (some m1),.slice (some ⟨ga,0,none⟩) st.aq.length st.aq.length,bv,.map (some m2)] 160 (0,0)):=by
 refine (hgr.block sp (Array.getElem?_eq_some_iff.1 h.blk).1 (fun e => ?_)).trans h.blk
 obtain ⟨_,cs,hc⟩:=ho.row e.symm
 rw [h.blk] at hc
 simp at hc
def NsQ (w:World) (rv:Value) (rs:List Rl) (e:Ending) (w':World):Prop:=∃ sp m1 ga m2 bv uvs,e = .returned (.pointer (some ⟨sp,0,none⟩))∧Sc w' w sp m1 ga m2 rs.length 0 bv uvs rv rs (stK rs rs.length) (fun _=>none)
set_option maxHeartbeats 16000000 in
theorem newScale_any (rv:Value) (rs:List Rl) (w:World) (h:PsR w rv rs) (hO:∀ r∈rs,Ok r) (hn:rs.length≤256) :
 Calls Tryz.prog 75 #[rv] w (NsQ w rv rs):=by
 have HP:Hid (PsR w rv rs):=h
 have HO:Hid (∀ r∈rs,Ok r):=hO
 obtain ⟨ra,rc,rfl,_,_⟩:=h
 obtain ⟨n,hnn⟩:∃ n,rs.length=n:=⟨_,rfl⟩
 have HN:Hid (rs.length=n):=hnn
 rw [hnn] at hn HP ⊢
 have hnI:(n:Int)≤256:=by omega
 have hmk:=make_zero n (by omega)
 have hmm := @run_makeMap Tryz.prog
 clear hnn hO
 go_enter Tryz.func75,Tryz.ntmps75
 obtain ⟨W1,hW1⟩:∃ W1,W1=((((w.alloc (.map #[] 0)).alloc (.cells (ints (List.replicate n 0)).toArray 3)).alloc (.map #[] 0)).alloc (.cells #[.slice ra n rc,.map (some w.heap.size),.slice (some ⟨w.heap.size+1,0,none⟩) n n,.slice none 0 0,.map (some (w.heap.size+1+1))] 160)):=⟨_,rfl⟩
 have H0:Hid (∃ bv uvs,Sc W1 w (w.heap.size+1+1+1) w.heap.size (w.heap.size+1) (w.heap.size+1+1) 0 0 bv uvs (.slice ra n rc) rs (stK rs 0) (fun _=>none)∧BKo W1 w.heap.size bv (stK rs 0).bk uvs):=by
  have g1:Grown (w.alloc (.map #[] 0)) W1:=by rw [hW1];exact (((Grown.refl _).alloc _).alloc _).alloc _
  have b1:W1.heap[w.heap.size+1]? = some (.cells (ints (List.replicate n 0)).toArray 3 (0,0)):=by
   have g:Grown ((w.alloc (.map #[] 0)).alloc (.cells (ints (List.replicate n 0)).toArray 3)) W1:=by rw [hW1];exact ((Grown.refl _).alloc _).alloc _
   have e:=heap_alloc_new (w.alloc (.map #[] 0)) (.cells (ints (List.replicate n 0)).toArray 3)
   have e2:=g.below.block (w.heap.size+1) (by simp)
   rw [e2]
   simpa using e
  have b3:W1.heap[w.heap.size+1+1+1]? = some (.cells #[.slice ra n rc,.map (some w.heap.size),.slice (some ⟨w.heap.size+1,0,none⟩) n n,.slice none 0 0,.map (some (w.heap.size+1+1))] 160 (0,0)):=by
   rw [hW1]
   have e:=heap_alloc_new (((w.alloc (.map #[] 0)).alloc (.cells (ints (List.replicate n 0)).toArray 3)).alloc (.map #[] 0)) (.cells #[.slice ra n rc,.map (some w.heap.size),.slice (some ⟨w.heap.size+1,0,none⟩) n n,.slice none 0 0,.map (some (w.heap.size+1+1))] 160)
   simpa using e
  have i1:IMap W1 w.heap.size 0 (fun _=>none):=(IMap.made w).kept (fun o ho=>(g1.below.block _ (Array.getElem?_eq_some_iff.1 ho).1).trans ho)
  have i2:IMap W1 (w.heap.size+1+1) 0 (fun _=>none):=by
   have g:Grown (((w.alloc (.map #[] 0)).alloc (.cells (ints (List.replicate n 0)).toArray 3)).alloc (.map #[] 0)) W1:=by rw [hW1];exact (Grown.refl _).alloc _
   have:=(IMap.made ((w.alloc (.map #[] 0)).alloc (.cells (ints (List.replicate n 0)).toArray 3))).kept (W':=W1) (fun o ho=>(g.below.block _ (Array.getElem?_eq_some_iff.1 ho).1).trans ho)
   simpa using this
  have hB:BKo W1 w.heap.size (.slice none 0 0) (stK rs 0).bk []:=⟨rfl,World.ownsRow_nil _ _ _ _⟩
  have hl:=HN.out
  refine ⟨.slice none 0 0,[],⟨?_,?_,HP.out,by omega,by omega,by omega,by omega,by omega,?_,?_,hB.bk,fun j hj=>by simp [stK,bkI] at hj,i2,fun k v e=>by cases e⟩,hB⟩
  · rw [b3,stK_len (Nat.zero_le _),hl]
  · rw [hW1];exact (((((Grown.refl _).alloc _).alloc _).alloc _).alloc _).below
  · have:wsF (stK rs 0).ws=fun _=>none:=by funext k;simp [wsF,stK]
    rw [this];exact i1
  · rw [b1];simp [stK,hl]
 go_wp2
 rw [show (((w.alloc (.map #[] 0)).alloc (.cells (ints (List.replicate n 0)).toArray 3)).alloc (.map #[] 0)).alloc (.cells #[.slice ra n rc,.map (some w.heap.size),.slice (some ⟨w.heap.size+1,0,none⟩) n n,.slice none 0 0,.map (some (w.heap.size+1+1))] 160)=W1 from hW1.symm]
 clear hW1 hmk hmm
 generalize w.heap.size+1+1+1=sp at H0 ⊢
 generalize w.heap.size+1+1=m2 at H0 ⊢
 generalize w.heap.size+1=ga at H0 ⊢
 go_loopw [18] (fun vi wr=>∃ k:Nat,vi = .int .i64 k∧k≤n∧Hid (∃ bv uvs,Sc wr w sp w.heap.size ga m2 k 0 bv uvs (.slice ra n rc) rs (stK rs k) (fun _=>none)∧BKo wr w.heap.size bv (stK rs k).bk uvs)) (fun vi _=>n - (intOf vi).toNat)
 case atStart=>exact ⟨0,rfl,by omega,H0⟩
 case round=>
  obtain ⟨k,rfl,hk,HSk⟩:=hrel
  clear H0
  have hk0:(0:Int)≤(k:Int):=by omega
  by_cases hlt:k<n
  · have hlt':(k:Int)<(n:Int):=by omega
    have hkI:(k:Int)≤256:=by omega
    have hkl:k<rs.length:=by rw [HN.out];exact hlt
    obtain ⟨bv,uvs,hS,hB⟩:=HSk.out
    clear HSk
    obtain ⟨a',c',e',_,hPr⟩:=HP.out
    obtain ⟨g,o,ha',hRA⟩:=hPr.resolve_left (fun e=>by rw [e] at hkl;simp at hkl)
    injection e' with e1 e2 e3
    clear e2 e3
    rw [ha'] at e1
    subst e1
    have hRn:=hRA k hkl
    have hOk:=HO.out _ (List.getElem_mem hkl)
    obtain ⟨r,hr⟩:∃ r,rs[k]=r:=⟨_,rfl⟩
    rw [hr] at hRn hOk
    have hRw:=hRn.below hS.bel (Nat.le_refl _)
    obtain ⟨av,kv,pv,rv',r0,r1,r2,r3,r4,r5,r6,hRR⟩:=hRw
    obtain ⟨av2,kv2,pv2,rv2,s0,s1,s2,s3,s4,s5,s6,hRR0⟩:=hRn
    have t1:=cell_below s1 hS.bel (Nat.le_refl _)
    have t2:=cell_below s2 hS.bel (Nat.le_refl _)
    have t3:=cell_below s3 hS.bel (Nat.le_refl _)
    have t5:=cell_below s5 hS.bel (Nat.le_refl _)
    rw [t1] at r1;cases r1
    rw [t2] at r2;cases r2
    rw [t3] at r3;cases r3
    rw [t5] at r5;cases r5
    have HPB:Hid (∀ wx,Calls Tryz.prog 99 #[.agg #[.bool r.bg,av,kv,pv,.bool r.en,rv',.int .i64 r.cu]] wx fun e w'=>∃ v,e = .returned v∧PR w v (backP r)∧Grown wx w'):=fun wx=>putBack_any r av kv pv rv' wx w hRR0 hOk.c0 hOk.c1
    have hkl8:(r.key.length:Int)≤8:=by have:=hOk.k8;omega
    have HKL:Hid (1≤r.key.length∧r.key.length≤8∧(backP r).length≤16):=⟨hOk.k0,hOk.k8,by have:=hOk.r16;simp [backP];omega⟩
    obtain ⟨a1,n1,c1,rfl⟩:=hRR0.a.sl
    obtain ⟨ka,kc,hkv,_,_⟩:=hRR0.k
    subst hkv
    obtain ⟨a3,n3,c3,rfl⟩:=hRR0.p.sl
    obtain ⟨a5,n5,c5,rfl⟩:=hRR0.r.sl
    obtain ⟨kl,hkl'⟩:∃ kl,r.key.length=kl:=⟨_,rfl⟩
    rw [hkl'] at t2 HPB hkl8 HKL
    have hkl0:(0:Int)≤(kl:Int):=by omega
    obtain ⟨xb,hxb⟩:∃ xb,r.bg=xb:=⟨_,rfl⟩
    obtain ⟨xe,hxe⟩:∃ xe,r.en=xe:=⟨_,rfl⟩
    obtain ⟨xc,hxc⟩:∃ xc,r.cu=xc:=⟨_,rfl⟩
    rw [hxb] at r0 HPB
    rw [hxe] at r4 HPB
    rw [hxc] at r6 HPB
    obtain ⟨W5,hW5⟩:∃ W5,W5=wr.alloc (.cells #[.bool xb,.slice a1 n1 c1,.slice ka kl kc,.slice a3 n3 c3,.bool xe,.slice a5 n5 c5,.int .i64 xc] 61):=⟨_,rfl⟩
    have hG5:Grown wr W5:=by rw [hW5];exact (Grown.refl _).alloc _
    have b5:W5.heap[wr.heap.size]? = some (.cells #[.bool xb,.slice a1 n1 c1,.slice ka kl kc,.slice a3 n3 c3,.bool xe,.slice a5 n5 c5,.int .i64 xc] 61 (0,0)):=by rw [hW5];exact heap_alloc_new _ _
    have hS5:=hS.grown hG5
    have hB5:=hB.below hG5.below
    obtain ⟨W6,hrun,hI,ht⟩:=hS5.wm.store (by omega) Tryz.underlying81 (k:=(k:Int)) ⟨by omega,by omega⟩ (.int .i64 1)
    obtain ⟨es6,c6,ho6⟩:=hS5.wm.isMap
    have hwl:(stK rs k).ws.length=k:=by simp [stK]
    have hI2:IMap W6 w.heap.size (k+1) (wsF ((stK rs k).ws++[1])):=by rw [←wsF_snoc,hwl];exact hI
    have hS6:=hS5.turn1 ht hI2
    have hB6:BKo W6 w.heap.size bv (stK rs k).bk uvs:=hB5.turn ho6 (by simp) (fun b hb=>turned_other ht hb)
    have b6:W6.heap[wr.heap.size]? = some (.cells #[.bool xb,.slice a1 n1 c1,.slice ka kl kc,.slice a3 n3 c3,.bool xe,.slice a5 n5 c5,.int .i64 xc] 61 (0,0)):=(turned_other ht (ne_obj b5 ho6 (by simp))).trans b5
    have q1:∀ o,(wr.alloc o).cell? ⟨sp,1,none⟩=some (.map (some w.heap.size)):=fun o=>cell_up (by rw [cell_of hS.blk];simp) o
    have hal:(stK rs k).aq.length=n:=by rw [stK_len (by omega)];exact HN.out
    have q2:W6.cell? ⟨sp,2,none⟩=some (.slice (some ⟨ga,0,none⟩) n n):=by rw [cell_of hS6.blk];simp [hal]
    have hga6:=hS6.asb
    have hkq:k<(stK rs k).aq.length:=by omega
    have qa:∃ u,W6.cell? ⟨ga,k,none⟩=some u:=by rw [cell_of hga6];exact ⟨.int .i64 (at0 (stK rs k).aq k),by simp [ints,at0,hkq]⟩
    obtain ⟨u6,qa⟩:=qa
    have qf:W6.frozen? ⟨ga,k,none⟩=false:=free_of hga6
    have q5:W6.cell? ⟨wr.heap.size,2,none⟩=some (.slice ka kl kc):=by rw [cell_of b6];simp
    -- behind the store
    have hS7:=hS6.turn2 k (2 - (kl:Int))
    rw [show (St.mk ((stK rs k).ws++[1]) (stK rs k).aq (stK rs k).bk).aq=(stK rs k).aq from rfl,stK_set hkl] at hS7
    have hB7:=hB6.turn hga6 (by simp) (turns_set W6 ga k (.int .i64 (2 - (kl:Int))))
    have b7:(W6.setCell ⟨ga,k,none⟩ (.int .i64 (2 - (kl:Int)))).heap[wr.heap.size]? = some (.cells #[.bool xb,.slice a1 n1 c1,.slice ka kl kc,.slice a3 n3 c3,.bool xe,.slice a5 n5 c5,.int .i64 xc] 61 (0,0)):=(turns_set _ _ _ _ _ (ne_obj b6 hga6 (by simp))).trans b6
    have HJ0:Hid (∃ bv uvs,Sc (W6.setCell ⟨ga,k,none⟩ (.int .i64 (2 - (kl:Int)))) w sp w.heap.size ga m2 (k+1) 0 bv uvs (.slice (some ⟨g,o,none⟩) n rc) rs (stJ rs k 0 r) (fun _=>none)∧BKo (W6.setCell ⟨ga,k,none⟩ (.int .i64 (2 - (kl:Int)))) w.heap.size bv (stJ rs k 0 r).bk uvs):=by
     rw [stJ_start,hkl']
     exact ⟨bv,uvs,hS7,hB7⟩
    have HR:Hid (rs[k]=r∧r.key.length=kl∧k<rs.length):=⟨hr,hkl',hkl⟩
    rw [hW5] at hrun
    clear hS hB hPr ha' hRA hOk hr hRR hRR0 hS5 hB5 hI hI2 hS6 hB6 ht ho6 hwl hal hga6 hkq hS7 hB7 hxb hxe hxc hkl' s0 s1 s2 s3 s4 s5 s6
    obtain ⟨W7,hW7⟩:∃ W7,W7=W6.setCell ⟨ga,k,none⟩ (.int .i64 (2 - (kl:Int))):=⟨_,rfl⟩
    rw [←hW7] at HJ0 b7
    have hnum:(1:Int) - ((kl:Int) - 1)=2 - (kl:Int):=by omega
    have p0:W7.cell? ⟨wr.heap.size,0,none⟩=some (.bool xb):=by rw [cell_of b7];simp
    have p1:W7.cell? ⟨wr.heap.size,1,none⟩=some (.slice a1 n1 c1):=by rw [cell_of b7];simp
    have p2:W7.cell? ⟨wr.heap.size,2,none⟩=some (.slice ka kl kc):=by rw [cell_of b7];simp
    have p3:W7.cell? ⟨wr.heap.size,3,none⟩=some (.slice a3 n3 c3):=by rw [cell_of b7];simp
    have p4:W7.cell? ⟨wr.heap.size,4,none⟩=some (.bool xe):=by rw [cell_of b7];simp
    have p5:W7.cell? ⟨wr.heap.size,5,none⟩=some (.slice a5 n5 c5):=by rw [cell_of b7];simp
    have p6:W7.cell? ⟨wr.heap.size,6,none⟩=some (.int .i64 xc):=by rw [cell_of b7];simp
    clear b5 b6 b7 hW5 hG5
    go_wp2
    go_region
    rw [←hW7]
    clear hW7 q1 q2 qa qf q5 hrun hnum
    go_wp2_with fail
    refine (HPB.out _).mono ?_
    rintro e w8 ⟨v,rfl,hPR,hG8⟩
    have HPR:Hid (PR w v (backP r)):=hPR
    have HJ1:Hid (∃ bv uvs,Sc w8 w sp w.heap.size ga m2 (k+1) 0 bv uvs (.slice (some ⟨g,o,none⟩) n rc) rs (stJ rs k 0 r) (fun _=>none)∧BKo w8 w.heap.size bv (stJ rs k 0 r).bk uvs):=by
     obtain ⟨bv,uvs,h1,h2⟩:=HJ0.out
     have hg:Grown W7 w8:=(Grown.refl W7).drew.trans hG8
     exact ⟨bv,uvs,h1.grown hg,h2.below hg.below⟩
    obtain ⟨pa,pc,rfl,_,_⟩:=hPR
    obtain ⟨nb,hnb⟩:∃ nb,(backP r).length=nb:=⟨_,rfl⟩
    have HNB:Hid ((backP r).length=nb):=hnb
    rw [hnb] at HPR HKL ⊢
    have hnbI:(nb:Int)≤16:=by have:=HKL.out;omega
    clear hnb HJ0 hG8 HPB p0 p1 p2 p3 p4 p5 p6 r0 r4 r6 t1 t2 t3 t5 HP
    go_wp2
    go_loopw [42] (fun vj wx=>∃ j:Nat,vj = .int .i64 j∧j≤nb∧Hid (∃ bv uvs,Sc wx w sp w.heap.size ga m2 (k+1) 0 bv uvs (.slice (some ⟨g,o,none⟩) n rc) rs (stJ rs k j r) (fun _=>none)∧BKo wx w.heap.size bv (stJ rs k j r).bk uvs)) (fun vj _=>nb - (intOf vj).toNat)
    case atStart=>exact ⟨0,rfl,by omega,HJ1⟩
    case round=>
     obtain ⟨j,rfl,hj,HSj⟩:=hrel
     clear HJ1
     have hj0:(0:Int)≤(j:Int):=by omega
     by_cases hjl:j<nb
     · have hjl':(j:Int)<(nb:Int):=by omega
       have hjb:j<(backP r).length:=by rw [HNB.out];exact hjl
       obtain ⟨bv2,uvs2,hS,hB⟩:=HSj.out
       clear HSj
       obtain ⟨a',c',e',_,hPr⟩:=HPR.out
       obtain ⟨pg,po,ha',hPd⟩:=hPr.resolve_left (fun e=>by rw [e] at hjb;simp at hjb)
       injection e' with e1 e2 e3
       clear e2 e3
       rw [ha'] at e1
       subst e1
       have hPA:=hPd j hjb
       have hbk1:=stJ_bk (rs:=rs) (k:=k) hjb
       obtain ⟨p,hp⟩:∃ p,(backP r)[j]=p:=⟨_,rfl⟩
       rw [hp] at hPA hbk1
       obtain ⟨tv,x0,x1,x2,x3,hRs⟩:=hPA
       have y0:=cell_below x0 hS.bel (Nat.le_refl _)
       have y1:=cell_below x1 hS.bel (Nat.le_refl _)
       have y2:=cell_below x2 hS.bel (Nat.le_refl _)
       have y3:=cell_below x3 hS.bel (Nat.le_refl _)
       have HUR:Hid (∀ W',Below w.heap.size w W'→UR W' w.heap.size tv p.tl):=fun W' hb=>hRs.ur hb
       obtain ⟨ta,tn,tc,rfl⟩:=hRs.sl
       have HPK:Hid ((backP r)[j]=p):=hp
       have hkrs:=HR.out.2.2
       have hql:(stJ rs k j r).aq.length=n:=by show (aqJ rs k _).length=n;rw [aqJ_len hkrs];exact HN.out
       have z2:∀ o,(wr.alloc o).cell? ⟨sp,2,none⟩=some (.slice (some ⟨ga,0,none⟩) n n):=fun o=>cell_up (by rw [cell_of hS.blk];simp [hql]) o
       have za:∀ o,(wr.alloc o).cell? ⟨ga,k,none⟩=some (.int .i64 (2 - (kl:Int)+(j:Int))):=fun o=>cell_up (by rw [cell_of hS.asb];show (ints (aqJ rs k _)).toArray[k]? = _;simp [ints,aqJ_at hkrs,HR.out.2.1]) o
       have zf:∀ ob,(wr.alloc ob).frozen? ⟨ga,k,none⟩=false:=fun ob=>free_of (B:=ga) (((Grown.refl wr).alloc ob).below.block ga (Array.getElem?_eq_some_iff.1 hS.asb).1 |>.trans hS.asb)
       obtain ⟨pk,hpk⟩:∃ pk,p.k=pk:=⟨_,rfl⟩
       obtain ⟨pu,hpu⟩:∃ pu,p.u=pu:=⟨_,rfl⟩
       obtain ⟨py,hpy⟩:∃ py,p.y=py:=⟨_,rfl⟩
       rw [hpk] at y0
       rw [hpu] at y1
       rw [hpy] at y2
       have HMB:Hid (∀ wx,UR wx w.heap.size (.slice ta tn tc) p.tl→Calls Tryz.prog 100 #[.agg #[.int .i64 pk,.int .i64 pu,.int .i64 py,.slice ta tn tc]] wx fun e w'=>∃ v,e = .returned v∧UR w' w.heap.size v (mayB p)∧Grown wx w'):=fun wx hx=>by
        have:=mayBe_any p (.slice ta tn tc) wx w.heap.size hx
        rw [hpk,hpu,hpy] at this
        exact this
       have HBK1:Hid ((stJ rs k (j+1) r).bk=(stJ rs k j r).bk++(if pk=2 then [] else [⟨k,mayB p,1⟩])):=by show _=_;rw [hbk1,hpk]
       have hjI:(j:Int)≤16:=by omega
       have hklI:(0:Int)≤(kl:Int)∧(kl:Int)≤8:=⟨hkl0,hkl8⟩
       have HS:Hid (Sc wr w sp w.heap.size ga m2 (k+1) 0 bv2 uvs2 (.slice (some ⟨g,o,none⟩) n rc) rs (stJ rs k j r) (fun _=>none)):=hS
       have HB:Hid (BKo wr w.heap.size bv2 (stJ rs k j r).bk uvs2):=hB
       clear hS hB hPr ha' hPd hRs hbk1 hp hpk hpu hpy hql x0 x1 x2 x3
       obtain ⟨V2,hV2⟩:∃ V2,V2=(wr.alloc (.cells #[.int .i64 pk,.int .i64 pu,.int .i64 py,.slice ta tn tc] 58)).setCell ⟨ga,k,none⟩ (.int .i64 (2 - (kl:Int)+(j:Int)+1)):=⟨_,rfl⟩
       have hVS:Sc V2 w sp w.heap.size ga m2 (k+1) 0 bv2 uvs2 (.slice (some ⟨g,o,none⟩) n rc) rs ⟨(stJ rs k j r).ws,(stJ rs k (j+1) r).aq,(stJ rs k j r).bk⟩ (fun _=>none):=by
        have h1:=(HS.out.grown ((Grown.refl _).alloc (.cells #[.int .i64 pk,.int .i64 pu,.int .i64 py,.slice ta tn tc] 58))).turn2 k (2 - (kl:Int)+(j:Int)+1)
        rw [hV2]
        have e1:(stJ rs k j r).aq.set k (2 - (kl:Int)+(j:Int)+1)=(stJ rs k (j+1) r).aq:=by
         show (aqJ rs k _).set k _=aqJ rs k _
         rw [aqJ_set hkrs,HR.out.2.1]
         congr 1
         omega
        rw [e1] at h1
        exact h1
       have hasb1:=(HS.out.grown ((Grown.refl _).alloc (.cells #[.int .i64 pk,.int .i64 pu,.int .i64 py,.slice ta tn tc] 58))).asb
       have hVB:BKo V2 w.heap.size bv2 (stJ rs k j r).bk uvs2:=by
        rw [hV2]
        exact (HB.out.below ((Grown.refl _).alloc _).below).turn hasb1 (by simp) (turns_set _ _ _ _)
       have bp1:(wr.alloc (.cells #[.int .i64 pk,.int .i64 pu,.int .i64 py,.slice ta tn tc] 58)).heap[wr.heap.size]? = some (.cells #[.int .i64 pk,.int .i64 pu,.int .i64 py,.slice ta tn tc] 58 (0,0)):=heap_alloc_new _ _
       have bp:V2.heap[wr.heap.size]? = some (.cells #[.int .i64 pk,.int .i64 pu,.int .i64 py,.slice ta tn tc] 58 (0,0)):=by
        rw [hV2]
        exact (turns_set _ _ _ _ _ (ne_obj bp1 hasb1 (by simp))).trans bp1
       have HVS:Hid (Sc V2 w sp w.heap.size ga m2 (k+1) 0 bv2 uvs2 (.slice (some ⟨g,o,none⟩) n rc) rs ⟨(stJ rs k j r).ws,(stJ rs k (j+1) r).aq,(stJ rs k j r).bk⟩ (fun _=>none)):=hVS
       have HVB:Hid (BKo V2 w.heap.size bv2 (stJ rs k j r).bk uvs2):=hVB
       have c0:V2.cell? ⟨wr.heap.size,0,none⟩=some (.int .i64 pk):=by rw [cell_of bp];simp
       have c0':=c0
       rw [hV2] at c0'
       clear hVS hVB hasb1 bp1 HS HB
       by_cases h2:pk=2
       · as_aux_lemma=>
          subst h2
          have HF:Hid (∃ bv uvs,Sc V2 w sp w.heap.size ga m2 (k+1) 0 bv uvs (.slice (some ⟨g,o,none⟩) n rc) rs (stJ rs k (j+1) r) (fun _=>none)∧BKo V2 w.heap.size bv (stJ rs k (j+1) r).bk uvs):=by
           have e:=HBK1.out
           simp only [if_true,List.append_nil] at e
           refine ⟨bv2,uvs2,?_,by rw [e];exact HVB.out⟩
           have:=HVS.out
           rw [←e] at this
           exact this
          clear HVS HVB bp HBK1 HMB HUR
          rw [hV2] at HF
          clear c0 hV2
          go_wp2
          exact ⟨⟨j+1,by go_num,by omega,HF⟩,by simp [intOf];omega⟩
       · have h2':(pk != 2)=true:=by simpa using h2
         have d3:V2.drew.cell? ⟨sp,3,none⟩=some bv2:=by rw [cell_drew_own,cell_of HVS.out.blk];simp
         have c1:V2.cell? ⟨wr.heap.size,1,none⟩=some (.int .i64 pu):=by rw [cell_of bp];simp
         have c2:V2.cell? ⟨wr.heap.size,2,none⟩=some (.int .i64 py):=by rw [cell_of bp];simp
         have c3:V2.cell? ⟨wr.heap.size,3,none⟩=some (.slice ta tn tc):=by rw [cell_of bp];simp
         obtain ⟨L,hL⟩:∃ L,(stJ rs k j r).bk.length=L:=⟨_,rfl⟩
         have HLB:Hid (L≤5000):=by
          show L≤5000
          have h1:=bkI_len (rs:=rs) (fun r hr=>(HO.out r hr).r16) k
          have h2:=pbs_len k ((backP r).take j)
          rw [←hL]
          show (bkI rs k++pbs k _).length≤_
          simp at h2 ⊢
          omega
         have HUV:Hid (UR V2.drew w.heap.size (.slice ta tn tc) p.tl):=HUR.out _ (HVS.out.bel.drew)
         have HON:Hid (∀ (w9:World) (ob:Obj),Grown V2.drew w9→(w9.alloc ob).ownsRow w.heap.size 163 3 bv2 L (fbk (stJ rs k j r).bk uvs2)∧w.heap.size≤(w9.alloc ob).heap.size):=fun w9 ob h9=>by
          have hg:Grown V2 (w9.alloc ob):=((Grown.refl V2).drew.trans h9).alloc ob
          refine ⟨?_,Nat.le_trans HVS.out.bel.size hg.size⟩
          have:=(HVB.out.below hg.below).2
          rw [hL] at this
          exact this
         have HFIN:Hid (∀ (w9 w10:World) (va:Option Addr) (vn vc g10 cap:Nat),Grown V2.drew w9→UR w9 w.heap.size (.slice va vn vc) (mayB p)→w10.ownsRow w.heap.size 163 3 (.slice (some ⟨g10,0,none⟩) (L+1) cap) (L+1) (fbk (stJ rs k j r).bk uvs2++fb1 ⟨k,mayB p,1⟩ (.slice va vn vc))→(w9.alloc (.cells #[.int .i64 k,.slice va vn vc,.int .i64 1] 163)).grownBy w10 bv2.ownBlock→(w10.cell? ⟨sp,3,none⟩=some bv2∧w10.frozen? ⟨sp,3,none⟩=false)∧∃ bv uvs,Sc (w10.setCell ⟨sp,3,none⟩ (.slice (some ⟨g10,0,none⟩) (L+1) cap)) w sp w.heap.size ga m2 (k+1) 0 bv uvs (.slice (some ⟨g,o,none⟩) n rc) rs (stJ rs k (j+1) r) (fun _=>none)∧BKo (w10.setCell ⟨sp,3,none⟩ (.slice (some ⟨g10,0,none⟩) (L+1) cap)) w.heap.size bv (stJ rs k (j+1) r).bk uvs):=fun w9 w10 va vn vc g10 cap h9 hv hown hgr=>by
          have hg:Grown V2 (w9.alloc (.cells #[.int .i64 k,.slice va vn vc,.int .i64 1] 163)):=((Grown.refl V2).drew.trans h9).alloc _
          have hS9:=HVS.out.grown hg
          have hB9:=HVB.out.below hg.below
          have hsp:=hS9.sp_grown hB9 hgr
          refine ⟨⟨by rw [cell_of hsp];simp,free_of hsp⟩,?_⟩
          have ht5:=hS9.turn5 (b:=⟨k,mayB p,1⟩) (uv := .slice va vn vc) hB9 hL hown hgr (hv.below ((Grown.refl _).alloc _).below)
          have e:=HBK1.out
          rw [if_neg h2] at e
          refine ⟨.slice (some ⟨g10,0,none⟩) (L+1) cap,uvs2++[.slice va vn vc],?_,?_⟩
          · have:=ht5.1
            simp only at this
            rw [←e] at this
            exact this
          · rw [e];exact ht5.2.1
         clear HVS HVB HUR bp hL HBK1
         go_wp2
         rw [←hV2]
         clear hV2 c0'
         obtain ⟨i0,hi,hz0,hz1,hz2⟩:=info_parts info121
         go_region_law (first
          | (go_simp;go_at_call 100;refine (HMB.out _ HUV.out).mono ?_;rintro e w9 ⟨v,rfl,hv,hG9⟩;obtain ⟨va,vn,vc,rfl⟩:=hv.rs.sl;have HV9:Hid (UR w9 w.heap.size (.slice va vn vc) (mayB p)):=hv;have HG9:Hid (Grown V2.drew w9):=hG9;have d39:=hG9.cellv d3;have d39':=fun ob=>cell_up d39 ob;clear hv hG9)
          | (refine step_append_lies _ rfl (.tmp 62) (.tmp 67) 158 rfl w.heap.size 163 i0 (.agg #[.int .i64 0,.slice none 0 0,.int .i64 0]) 3 40 Tryz.underlying158 hi hz0 hz1 hz2 rfl (by decide) bv2 L (fbk (stJ rs k j r).bk uvs2) rfl (HON.out _ _ HG9.out).1 ⟨w9.heap.size,0,none⟩ 1 1 (fb1 ⟨k,mayB p,1⟩ (.slice va vn vc)) rfl rfl (fun j u hj=>by rw [add_zero_at,cell_of (heap_alloc_new _ _)];simpa [fb1] using hj) (fun u hu=>by simp [fb1] at hu;rcases hu with rfl | rfl | rfl <;> rfl) (by omega) (by have:=HLB.out;unfold maxLen;omega) (by have:=HLB.out;omega) (HON.out _ _ HG9.out).2 _ rfl ?_;intro g10 cap w10 hown hgr _ _;obtain ⟨⟨f3,ff⟩,hfin⟩:=HFIN.out w9 w10 va vn vc g10 cap HG9.out HV9.out hown hgr;have HFF:Hid (∃ bv uvs,Sc (w10.setCell ⟨sp,3,none⟩ (.slice (some ⟨g10,0,none⟩) (L+1) cap)) w sp w.heap.size ga m2 (k+1) 0 bv uvs (.slice (some ⟨g,o,none⟩) n rc) rs (stJ rs k (j+1) r) (fun _=>none)∧BKo (w10.setCell ⟨sp,3,none⟩ (.slice (some ⟨g10,0,none⟩) (L+1) cap)) w.heap.size bv (stJ rs k (j+1) r).bk uvs):=hfin;clear hfin hown hgr))
         all_goals (go_wp2;exact ⟨⟨j+1,by go_num,by omega,HFF⟩,by simp [intOf];omega⟩)
     · have hge:¬ (j:Int)<(nb:Int):=by omega
       have HF:Hid (∃ bv uvs,Sc wr w sp w.heap.size ga m2 (k+1) 0 bv uvs (.slice (some ⟨g,o,none⟩) n rc) rs (stK rs (k+1)) (fun _=>none)∧BKo wr w.heap.size bv (stK rs (k+1)).bk uvs):=by
        have:=HSj.out
        have e:stJ rs k j r=stK rs (k+1):=by
         rw [←stJ_end HR.out.2.2,HR.out.1,HNB.out]
         congr 1
         omega
        rw [e] at this
        exact this
       clear HSj
       go_wp2
       exact ⟨⟨k+1,by go_num,by omega,HF⟩,by simp [intOf];omega⟩
  · have hge:¬ (k:Int)<(n:Int):=by omega
    have HF:Hid (NsQ w (.slice ra n rc) rs (.returned (.pointer (some ⟨sp,0,none⟩))) wr):=by
     obtain ⟨bv,uvs,h1,_⟩:=HSk.out
     have e:k=rs.length:=by have:=HN.out;omega
     subst e
     exact ⟨sp,_,ga,m2,bv,uvs,rfl,h1⟩
    clear HSk
    go_wp2
    go_ret
    exact HF.out
end Go.Proofs
