/-
  Several texts in one (S6z S7z Xdz Xez Xfz Xgz Xhz Xiz Xjz Xkz Xlz Xmz Xnz Xoz Xpz Xqz).
-/
import Derived.Test.YtcfcjljapamcoaaGreatDoorMpwz
import Derived.Test.YtcfcjljapamcoaaGreatDoorMpsx
import Derived.RangeFuncNested
import Derived.RangeFuncBound
import Derived.RangeFuncCalls
import Derived.RangeFuncLeaves
import Derived.Shelf.Abstract
import Derived.Shelf.RegionOpen
import Derived.WalkKit
import Derived.WalkSpells
import Derived.WalkLawsBesides
import Derived.OwnWalkIn
import Derived.TacticsInMore
import Derived.LoopNIn
import Derived.LoopIn
import Derived.BigQuiet
import Derived.RegionIn
import Derived.Deep.QuietTactic
import Derived.Deep.RegionWith
import Derived.Lib.OthersKept
import Derived.Maps.AppendAt
import Derived.Lib.SmallJoins
import Derived.Shelf.SlSortCmp.QuietGrown
import Derived.Test.YtcfcjljapamcoaaGreatDoorMggx
import Derived.Test.YtcfcjljapamcoaaGreatDoorMpkx
import Derived.Test.YtcfcjljapamcoaaGreatDoorMgox
import Derived.Test.YtcfcjljapamcoaaGreatDoorMgex
import Derived.Test.YtcfcjljapamcoaaGreatDoorMgcx
import Derived.Test.YtcfcjljapamcoaaGreatDoorMpex
import Derived.Test.YtcfcjljapamcoaaGreatDoorMprx
import Derived.Test.YtcfcjljapamcoaaGreatDoorMglx
import Derived.Deep.DeepAppendRoom
namespace Go.Proofs
open Go.RowKit Go.Shelf
set_option maxRecDepth 100000
def bts (l:List Int):List UInt8:=l.flatMap fun u=>(put u).data.toList
theorem bts_cons (u:Int) (l:List Int):bts (u::l)=(put u).data.toList++bts l:=rfl
theorem bts_append (l k:List Int):bts (l++k)=bts l++bts k:=by simp [bts]
theorem joinB_bts:∀ l:List Int,AllU l→joinB l=some (bts l)
 | [],_=>rfl
 | u::l,h=>by
  rw [joinB_step (h u (by simp)),joinB_bts l fun x hx=>h x (List.mem_cons_of_mem _ hx)]
  rfl
theorem joinS_bts {l:List Int} (h:AllU l):joinS l=⟨(bts l).toArray⟩:=by
 unfold joinS
 rw [joinB_bts l h]
theorem bts_units (s:ByteArray):∀ k p,s.size≤p+k→bts (intsU (unitsN s k p))=s.data.toList.drop p
 | 0,p,h=>by
  rw [unitsN_end s 0 p (by omega),List.drop_eq_nil_of_le (by rw [←Lib.size_eq];omega)]
  rfl
 | k+1,p,h=>by
  by_cases hp:p<s.size
  · have hw:=uw_pos s p
    rw [unitsN_step s k p hp]
    show (put (uAt s p:Nat)).data.toList++bts (intsU (unitsN s k (p+uw s p)))=_
    rw [bts_units s k (p+uw s p) (by omega),put_uAt s p hp,←List.drop_drop,List.take_append_drop]
  · rw [unitsN_end s _ p hp,List.drop_eq_nil_of_le (by rw [←Lib.size_eq];omega)]
    rfl
theorem join_units (s:ByteArray):joinS (intsU (units s))=s:=by
 rw [joinS_bts (units_all s)]
 unfold units
 rw [bts_units s s.size 0 (by omega)]
 simp
theorem drop_cons {t:ByteArray} {q:Nat} {b:UInt8} {r:List UInt8} (h:t.data.toList.drop q=b::r):q<t.size∧t.get! q=b∧t.data.toList.drop (q+1)=r:=by
 have hq:q<t.size:=by
  rw [Lib.size_eq]
  by_cases e:q<t.data.toList.length
  · exact e
  · rw [List.drop_eq_nil_of_le (by omega)] at h
    cases h
 rw [drop_get t q hq] at h
 injection h with h1 h2
 exact ⟨hq,h1,h2⟩
theorem not_stray {t:ByteArray} {q c n:Nat} (h:Utf8.decode t q=(c,n)) (hc:c≠65533∨n≠1):uAt t q=c∧uw t q=n:=by
 have hs:strayAt t q=false:=by
  cases hs:strayAt t q with
  | false=>rfl
  | true=>
   have:=(stray_iff t q).1 hs
   rw [h] at this
   injection this with h1 h2
   rcases hc with hc | hc
   · exact absurd h1 hc
   · exact absurd h2 hc
 refine ⟨?_,?_⟩
 · rw [uAt_rune hs,h]
 · unfold uw
   rw [h]
theorem rune_at {t:ByteArray} {q:Nat} {u:Int} {rest:List UInt8} (hu:(0≤u∧u<55296)∨(57343<u∧u≤1114111)) (h:t.data.toList.drop q=(put u).data.toList++rest):q<t.size∧(uAt t q:Int)=u∧uw t q=(put u).data.toList.length:=by
 rw [put_rune hu] at h ⊢
 obtain ⟨c,rfl⟩:∃ c:Nat,u=c:=⟨u.toNat,by omega⟩
 by_cases h1:c<128
 · rw [enc1 c h1] at h ⊢
   obtain ⟨a1,a2,_⟩:=drop_cons h
   have hb:=b8 c (by omega)
   obtain ⟨e1,e2⟩:=not_stray (dec1 t q (by rw [a2,hb];exact h1)) (.inl (by rw [a2,hb];omega))
   refine ⟨a1,by rw [e1,a2,hb],by rw [e2];rfl⟩
 · by_cases h2:c<2048
   · rw [enc2 c (by omega) h2] at h ⊢
     obtain ⟨a1,a2,h⟩:=drop_cons h
     obtain ⟨b1,b2,_⟩:=drop_cons h
     obtain ⟨e1,e2⟩:=not_stray (dec2 t q c (by omega) h2 b1 (by rw [a2];exact b8 _ (by omega)) (by rw [b2];exact b8 _ (by omega))) (.inr (by omega))
     exact ⟨a1,by rw [e1],by rw [e2];rfl⟩
   · by_cases h3:c<65536
     · rw [enc3 c (by omega) h3 (by omega)] at h ⊢
       obtain ⟨a1,a2,h⟩:=drop_cons h
       obtain ⟨b1,b2,h⟩:=drop_cons h
       obtain ⟨c1,c2,_⟩:=drop_cons h
       obtain ⟨e1,e2⟩:=not_stray (dec3 t q c (by omega) h3 (by omega) c1 (by rw [a2];exact b8 _ (by omega)) (by rw [b2];exact b8 _ (by omega)) (by rw [c2];exact b8 _ (by omega))) (.inr (by omega))
       exact ⟨a1,by rw [e1],by rw [e2];rfl⟩
     · rw [enc4 c (by omega) (by omega)] at h ⊢
       obtain ⟨a1,a2,h⟩:=drop_cons h
       obtain ⟨b1,b2,h⟩:=drop_cons h
       obtain ⟨c1,c2,h⟩:=drop_cons h
       obtain ⟨d1,d2,_⟩:=drop_cons h
       obtain ⟨e1,e2⟩:=not_stray (dec4 t q c (by omega) (by omega) d1 (by rw [a2];exact b8 _ (by omega)) (by rw [b2];exact b8 _ (by omega)) (by rw [c2];exact b8 _ (by omega)) (by rw [d2];exact b8 _ (by omega))) (.inr (by omega))
       exact ⟨a1,by rw [e1],by rw [e2];rfl⟩
theorem stray_stays {s t:ByteArray} {p q:Nat} (hs:strayAt s p=true) (_hp:p<s.size) (_hq:q<t.size) (hb:t.get! q=s.get! p)
 (hk:∀ k,1≤k→(∀ i,1≤i→i≤k→q+i<t.size∧(t.get! (q+i)).toNat / 64=2)→p+k<s.size∧s.get! (p+k)=t.get! (q+k)):uAt t q=uAt s p∧uw t q=1:=by
 have hd:=(stray_iff s p).1 hs
 have hw:uw t q=1:=by
  by_cases h1:1<uw t q
  · exfalso
    obtain ⟨m1,m2,m3⟩:=uw_many t q h1
    obtain ⟨c,F⟩:=form_of t q h1
    obtain ⟨f1,f2,f3⟩:=F
    have hall:∀ k,1≤k→k<uw t q→p+k<s.size∧s.get! (p+k)=t.get! (q+k):=fun k h2 h3=>hk k h2 fun i h4 h5=>⟨by omega,m3 i h4 (by omega)⟩
    have hdd:Utf8.decode s p=(c,uw t q):=by
     rcases f3 with ⟨n2,c1,c2,b0,b1⟩ | ⟨n3,c1,c2,c3,b0,b1,b2⟩ | ⟨n4,c1,c2,b0,b1,b2,b3⟩
     · have a1:=hall 1 (by omega) (by omega)
       rw [n2]
       exact dec2 s p c c1 c2 a1.1 (by rw [←hb];exact b0) (by rw [a1.2];exact b1)
     · have a1:=hall 1 (by omega) (by omega)
       have a2:=hall 2 (by omega) (by omega)
       rw [n3]
       exact dec3 s p c c1 c2 c3 a2.1 (by rw [←hb];exact b0) (by rw [a1.2];exact b1) (by rw [a2.2];exact b2)
     · have a1:=hall 1 (by omega) (by omega)
       have a2:=hall 2 (by omega) (by omega)
       have a3:=hall 3 (by omega) (by omega)
       rw [n4]
       exact dec4 s p c c1 c2 a3.1 (by rw [←hb];exact b0) (by rw [a1.2];exact b1) (by rw [a2.2];exact b2) (by rw [a3.2];exact b3)
    rw [hd] at hdd
    injection hdd with _ h2
    omega
  · have:=uw_pos t q
    omega
 have hst:strayAt t q=true:=by
  rcases one_wide t q hw with ⟨a,_⟩ | ⟨_,b⟩
  · exfalso
    rw [hb] at a
    have:=dec1 s p a
    rw [hd] at this
    injection this with h1 _
    omega
  · exact (stray_iff t q).2 b
 exact ⟨by rw [uAt_stray hst,uAt_stray hs,hb],hw⟩
theorem isStray_of {u:Int} (h:wd u≠0):(1114240≤u∧u≤1114367)∨((0≤u∧u<55296)∨(57343<u∧u≤1114111)):=by
 by_cases a:1114240≤u∧u≤1114367
 · exact .inl a
 · by_cases b:(0≤u∧u<55296)∨(57343<u∧u≤1114111)
   · exact .inr b
   · exact absurd (wd_no (by omega) (by omega)) h
theorem rune_first {u:Int} (hu:(0≤u∧u<55296)∨(57343<u∧u≤1114111)):∃ b r,(put u).data.toList=b::r∧b.toNat / 64≠2:=by
 rw [put_rune hu]
 obtain ⟨c,rfl⟩:∃ c:Nat,u=c:=⟨u.toNat,by omega⟩
 by_cases h1:c<128
 · rw [enc1 c h1]
   exact ⟨_,_,rfl,by rw [b8 _ (by omega)];omega⟩
 · by_cases h2:c<2048
   · rw [enc2 c (by omega) h2]
     exact ⟨_,_,rfl,by rw [b8 _ (by omega)];omega⟩
   · by_cases h3:c<65536
     · rw [enc3 c (by omega) h3 (by omega)]
       exact ⟨_,_,rfl,by rw [b8 _ (by omega)];omega⟩
     · rw [enc4 c (by omega) (by omega)]
       exact ⟨_,_,rfl,by rw [b8 _ (by omega)];omega⟩
def Stray (u:Int):Prop:=1114240≤u∧u≤1114367
theorem cont_strays:∀ (e:List Int) (k:Nat),AllU e→k≤(bts e).length→(∀ i (h:i<(bts e).length),i<k→((bts e)[i]).toNat / 64=2)→k≤e.length∧(∀ u∈e.take k,Stray u)
 | _,0,_,_,_=>⟨Nat.zero_le _,by simp⟩
 | [],k+1,_,h,_=>by simp [bts] at h
 | v::e,k+1,hu,h,hc=>by
  rcases isStray_of (hu v (by simp)) with hs | hr
  · have hp:(put v).data.toList=[UInt8.ofNat (v - 1114112).toNat]:=by rw [put_stray hs]
    have hb:bts (v::e)=UInt8.ofNat (v - 1114112).toNat::bts e:=by rw [bts_cons,hp];rfl
    have ih:=cont_strays e k (fun x hx=>hu x (List.mem_cons_of_mem _ hx)) (by rw [hb] at h;simpa using h) fun i hi hik=>by
     have:=hc (i+1) (by rw [hb];simpa using hi) (by omega)
     simpa [hb] using this
    refine ⟨by simpa using ih.1,fun u hu' => ?_⟩
    rw [List.take_succ_cons] at hu'
    rcases List.mem_cons.1 hu' with rfl | hu'
    · exact hs
    · exact ih.2 u hu'
  · exfalso
    obtain ⟨b,r,hbr,hn⟩:=rune_first hr
    have hb:bts (v::e)=b::(r++bts e):=by rw [bts_cons,hbr];rfl
    have:=hc 0 (by rw [hb];simp) (by omega)
    simp [hb] at this
    exact hn this
theorem bts_strays:∀ l:List Int,(∀ u∈l,Stray u)→(bts l).length=l.length
 | [],_=>rfl
 | u::l,h=>by
  rw [bts_cons,put_stray (h u (by simp)),List.length_append,bts_strays l fun x hx=>h x (List.mem_cons_of_mem _ hx)]
  simp
  omega
theorem stray_pre {rs:List Rl} (hB:Bck rs) {d l D:List Int} (h:Rn rs d l D):∀ e,D=d++e→∀ j,j≤e.length→(∀ u∈e.take j,Stray u)→j≤l.length∧l.take j=e.take j:=by
 induction h with
 | nil d=>
  intro e he j hj _
  obtain rfl:e=[]:=by simpa using he
  obtain rfl:j=0:=by simpa using hj
  exact ⟨Nat.le_refl _,rfl⟩
 | step d l D hl hR ih=>
  intro e he j hj hs
  match j with
  | 0=>exact ⟨Nat.zero_le _,by simp⟩
  | j+1=>
   obtain ⟨e1,he1⟩:=hR.pre
   have hee:e=layd rs d l++e1:=by
    rw [he,List.append_assoc] at he1
    exact List.append_cancel_left he1
   cases hq:ruleN rs d l with
   | none=>
    obtain ⟨l1,l2⟩:=over_none hq
    obtain ⟨u,l',rfl⟩:∃ u l',l=u::l':=by
     cases l with
     | nil=>exact absurd rfl hl
     | cons u l'=>exact ⟨u,l',rfl⟩
    rw [l1] at hee he1 ih
    rw [l2] at ih
    simp only [List.take_succ_cons,List.take_zero,List.drop_succ_cons,List.drop_zero,List.singleton_append] at hee he1 ih
    subst hee
    have:=ih e1 (by simpa using he1) j (by simpa using hj) fun x hx=>hs x (by simp [hx])
    exact ⟨by simpa using this.1,by simp [this.2]⟩
   | some r=>
    exfalso
    obtain ⟨hr,hf⟩:=rule_some hq
    have ho:=(hB.ok r hr).1
    have hb:=(hB.ok r hr).2
    obtain ⟨l1,_⟩:=done_some hq (cu_all ho hb)
    have hK:=(stF_key hf).2
    have hOl:=outs_len r (l.take r.key.length)
    have h0:=hb.i0
    rw [img_len] at h0
    rw [l1] at hee
    have hx:(outs r (l.take r.key.length))[0]'(by omega)∈e.take (j+1):=by
     subst hee
     rw [List.mem_iff_getElem]
     refine ⟨0,by simp;omega,?_⟩
     rw [List.getElem_take,List.getElem_append_left (by omega)]
    have hst:=hs _ hx
    obtain ⟨q,hq',he'⟩:=List.mem_map.1 (List.getElem_mem (show 0<(outs r (l.take r.key.length)).length by omega))
    have hin:=hasB_inL (wrt_in ho hK hq')
    rw [he'] at hin
    have hmet:metB straysL (imgP r.key q)=true:=(metB_iff (by simp [straysL]) (okS_rises (img_ok ho _ (List.mem_map.2 ⟨q,hq',rfl⟩)))).2 ⟨_,by
     unfold Stray at hst
     simp [inL,inR,straysL]
     omega,hin⟩
    have:(img r).any (metB straysL)=true:=List.any_eq_true.2 ⟨_,List.mem_map.2 ⟨q,hq',rfl⟩,hmet⟩
    rw [hb.st] at this
    cases this
end Go.Proofs
namespace Go.Proofs
open Go.RowKit Go.Shelf
set_option maxRecDepth 100000
theorem units_skip {s:ByteArray} : ∀ (K l1:List Int) (k p:Nat),intsU (unitsN s k p)=K++l1→s.size≤p+k→∃ k0 p',intsU (unitsN s k0 p')=l1∧s.size≤p'+k0
 | [],l1,k,p,h,hk=>⟨k,p,h,hk⟩
 | u::K,l1,k,p,h,hk=>by
  have hp:p<s.size:=by
   by_cases hp:p<s.size
   · exact hp
   · rw [unitsN_end s k p hp] at h
     cases h
  obtain ⟨k0,rfl⟩:∃ k0,k=k0+1:=⟨k - 1,by omega⟩
  rw [unitsN_step s k0 p hp] at h
  have hw:=uw_pos s p
  refine units_skip K l1 k0 (p+uw s p) ?_ (by omega)
  have:intsU ((p,uAt s p)::unitsN s k0 (p+uw s p))=(uAt s p:Int)::intsU (unitsN s k0 (p+uw s p)):=rfl
  rw [this] at h
  injection h
theorem runes_pre {t:ByteArray} : ∀ (O rest:List Int) (k q:Nat),(∀ u∈O,(0≤u∧u<55296)∨(57343<u∧u≤1114111))→t.data.toList.drop q=bts O++bts rest→t.size≤q+k→∃ k' q',intsU (unitsN t k q)=O++intsU (unitsN t k' q')∧t.data.toList.drop q'=bts rest∧t.size≤q'+k'
 | [],rest,k,q,_,h,hk=>⟨k,q,rfl,h,hk⟩
 | u::O,rest,k,q,hO,h,hk=>by
  rw [bts_cons,List.append_assoc] at h
  obtain ⟨h1,h2,h3⟩:=rune_at (hO u (by simp)) h
  obtain ⟨k0,rfl⟩:∃ k0,k=k0+1:=⟨k - 1,by omega⟩
  have hw:=uw_pos t q
  have hd:t.data.toList.drop (q+uw t q)=bts O++bts rest:=by
   rw [←List.drop_drop,h,h3,List.drop_left]
  obtain ⟨k',q',a1,a2,a3⟩:=runes_pre O rest k0 (q+uw t q) (fun x hx=>hO x (List.mem_cons_of_mem _ hx)) hd (by omega)
  refine ⟨k',q',?_,a2,a3⟩
  rw [unitsN_step t k0 q h1]
  show (uAt t q:Int)::intsU (unitsN t k0 (q+uw t q))=_
  rw [a1,h2]
  rfl
theorem runes_of {rs:List Rl} (hB:Bck rs) {r:Rl} (hr:r∈rs) {K:List Int} (hK:stB r.key K=true):∀ u∈outs r K,wd u≠0→(0≤u∧u<55296)∨(57343<u∧u≤1114111):=fun u hu hw=>by
 have ho:=(hB.ok r hr).1
 have hb:=(hB.ok r hr).2
 rcases isStray_of hw with hs | hr'
 · exfalso
   obtain ⟨q,hq',rfl⟩:=List.mem_map.1 hu
   have hin:=hasB_inL (wrt_in ho hK hq')
   have hmet:metB straysL (imgP r.key q)=true:=(metB_iff (by simp [straysL]) (okS_rises (img_ok ho _ (List.mem_map.2 ⟨q,hq',rfl⟩)))).2 ⟨_,by
    simp [inL,inR,straysL]
    omega,hin⟩
   have:(img r).any (metB straysL)=true:=List.any_eq_true.2 ⟨_,List.mem_map.2 ⟨q,hq',rfl⟩,hmet⟩
   rw [hb.st] at this
   cases this
 · exact hr'
theorem drop_at {l m:List UInt8} {q i:Nat} (h:l.drop q=m) (hi:i<m.length):∃ h':q+i<l.length,l[q+i]=m[i]:=by
 subst h
 rw [List.length_drop] at hi
 exact ⟨by omega,by rw [List.getElem_drop]⟩
theorem get_at {t:ByteArray} {q i:Nat} {m:List UInt8} (h:t.data.toList.drop q=m) (hi:i<m.length):q+i<t.size∧t.get! (q+i)=m[i]:=by
 obtain ⟨h1,h2⟩:=drop_at h hi
 have h3:q+i<t.size:=by rw [Lib.size_eq];exact h1
 refine ⟨h3,?_⟩
 have:=drop_get t (q+i) h3
 rw [List.drop_eq_getElem_cons h1] at this
 injection this with h4 _
 rw [←h4,h2]
theorem units_made {rs:List Rl} (hB:Bck rs) (s t:ByteArray) {d l D:List Int} (h:Rn rs d l D):∀ e k p k' q,D=d++e→AllU e→intsU (unitsN s k p)=l→s.size≤p+k→t.data.toList.drop q=bts e→t.size≤q+k'→intsU (unitsN t k' q)=e:=by
 induction h with
 | nil d=>
  intro e k p k' q he _ _ _ ht hk'
  obtain rfl:e=[]:=by simpa using he
  have:¬ q<t.size:=fun hq=>by
   rw [drop_get t q hq] at ht
   cases ht
  rw [unitsN_end t k' q this]
  rfl
 | step d l D hl hR ih=>
  intro e k p k' q he hU hs hk ht hk'
  obtain ⟨e1,he1⟩:=hR.pre
  have hee:e=layd rs d l++e1:=by
   rw [he,List.append_assoc] at he1
   exact List.append_cancel_left he1
  cases hq:ruleN rs d l with
  | none=>
   obtain ⟨l1,l2⟩:=over_none hq
   obtain ⟨u,l',rfl⟩:∃ u l',l=u::l':=by
    cases l with
    | nil=>exact absurd rfl hl
    | cons u l'=>exact ⟨u,l',rfl⟩
   rw [l1] at hee he1 ih hR
   rw [l2] at ih hR
   simp only [List.take_succ_cons,List.take_zero,List.drop_succ_cons,List.drop_zero,List.singleton_append] at hee he1 ih hR
   subst hee
   have hp:p<s.size:=by
    by_cases hp:p<s.size
    · exact hp
    · rw [unitsN_end s k p hp] at hs
      cases hs
   obtain ⟨k0,rfl⟩:∃ k0,k=k0+1:=⟨k - 1,by omega⟩
   rw [unitsN_step s k0 p hp] at hs
   have hs0:(uAt s p:Int)::intsU (unitsN s k0 (p+uw s p))=u::l':=hs
   injection hs0 with hu hl'
   have hwp:=uw_pos s p
   rw [bts_cons] at ht
   have key:q<t.size∧(uAt t q:Int)=u∧uw t q=(put u).data.toList.length:=by
    rcases isStray_of (hU u (by simp)) with hst | hr
    · have hput:(put u).data.toList=[UInt8.ofNat (u - 1114112).toNat]:=by rw [put_stray hst]
      rw [hput] at ht
      obtain ⟨a1,a2,a3⟩:=drop_cons (r:=bts e1) (by rw [ht];rfl)
      have hsp:strayAt s p=true:=by
       cases hx:strayAt s p with
       | true=>rfl
       | false=>
        have h1:=uAt_rune hx
        have h2:=dec_lt s p
        omega
      have hsb:=uAt_stray hsp
      have hw1:uw s p=1:=by
       unfold uw
       rw [(stray_iff s p).1 hsp]
      have hbs:s.data.toList.drop (p+1)=bts l':=by
       rw [←hl',hw1,bts_units s k0 (p+1) (by omega)]
      have hbyte:t.get! q=s.get! p:=by
       rw [a2]
       have h3:=(s.get! p).toNat_lt
       exact ofNat_get s p _ (by omega)
      obtain ⟨b1,b2⟩:=stray_stays hsp hp a1 hbyte fun j hj hc=>by
       have hjl:j≤(bts e1).length:=by
        have h1:=(hc j hj (Nat.le_refl _)).1
        have h2:=congrArg List.length a3
        rw [List.length_drop,←Lib.size_eq] at h2
        omega
       obtain ⟨c1,c2⟩:=cont_strays e1 j (fun x hx=>hU x (List.mem_cons_of_mem _ hx)) hjl fun i hi hij=>by
        have h1:=(get_at a3 hi).2
        have h2:=(hc (i+1) (by omega) (by omega)).2
        rw [←h1,show q+1+i=q+(i+1) by omega]
        exact h2
       obtain ⟨d1,d2⟩:=stray_pre hB hR e1 (by simpa using he1) j c1 c2
       have hbj:bts l'=bts (e1.take j)++bts (l'.drop j):=by
        rw [←d2,←bts_append,List.take_append_drop]
       have hbe:bts e1=bts (e1.take j)++bts (e1.drop j):=by
        rw [←bts_append,List.take_append_drop]
       have hlen:(bts (e1.take j)).length=j:=by
        rw [bts_strays _ c2,List.length_take]
        omega
       have hi1:j - 1<(bts l').length:=by rw [hbj,List.length_append];omega
       have hi2:j - 1<(bts e1).length:=by omega
       have g1:=get_at hbs hi1
       have g2:=get_at a3 hi2
       rw [show p+1+(j - 1)=p+j by omega] at g1
       rw [show q+1+(j - 1)=q+j by omega] at g2
       refine ⟨g1.1,?_⟩
       rw [g1.2,g2.2]
       simp only [hbj,hbe]
       rw [List.getElem_append_left (by omega),List.getElem_append_left (by omega)]
      exact ⟨a1,by rw [b1,hu],by rw [b2,hput];rfl⟩
    · exact rune_at hr ht
   obtain ⟨k1,rfl⟩:∃ k1,k'=k1+1:=⟨k' - 1,by omega⟩
   have hwq:=uw_pos t q
   have hd:t.data.toList.drop (q+uw t q)=bts e1:=by
    rw [←List.drop_drop,ht,key.2.2,List.drop_left]
   have:=ih e1 k0 (p+uw s p) k1 (q+uw t q) (by simpa using he1) (fun x hx=>hU x (List.mem_cons_of_mem _ hx)) hl' (by omega) hd (by omega)
   rw [unitsN_step t k1 q key.1]
   show (uAt t q:Int)::intsU (unitsN t k1 (q+uw t q))=_
   rw [this,key.2.1]
  | some r=>
   obtain ⟨hr,hf⟩:=rule_some hq
   have ho:=(hB.ok r hr).1
   have hb:=(hB.ok r hr).2
   obtain ⟨l1,l2⟩:=done_some hq (cu_all ho hb)
   rw [l1] at hee he1 ih
   rw [l2] at ih
   subst hee
   have hru:=runes_of hB hr (stF_key hf).2
   rw [bts_append] at ht
   obtain ⟨k1,q1,a1,a2,a3⟩:=runes_pre _ e1 k' q (fun u hu=>hru u hu (hU u (List.mem_append.2 (.inl hu)))) ht hk'
   obtain ⟨k0,p0,b1,b2⟩:=units_skip (l.take r.key.length) (l.drop r.key.length) k p (by rw [List.take_append_drop];exact hs) hk
   have:=ih e1 k0 p0 k1 q1 he1 (fun x hx=>hU x (List.mem_append.2 (.inr hx))) b1 b2 a2 a3
   rw [a1,this]
theorem end_allU {rs:List Rl} {s:ByteArray} (h:mayE rs s=0):AllU (endOf rs s).2:=by
 obtain ⟨st,hw,_,hF,_,hc,_⟩:=may_ok h
 unfold endOf
 rw [hw]
 exact ((go3_ok hc (intsU (units s)) _).un (units_all s)).2
theorem back_text {rs:List Rl} (hB:Bck rs) {s:ByteArray} (h1:mayE rs s=0) (h2:mayE (rs.map turnR) (runT rs s)=0) (hO:∀ u∈intsU (units s),ovU rs u):runT (rs.map turnR) (runT rs s)=s:=by
 obtain ⟨_,_,_,_,_,_,g1⟩:=may_ok h1
 obtain ⟨_,_,_,_,_,_,g2⟩:=may_ok h2
 have hU:=end_allU h1
 have ht:runT rs s=⟨(bts (endOf rs s).2).toArray⟩:=by
  unfold runT
  rw [if_pos h1,joinS_bts hU]
 obtain ⟨t,htt⟩:∃ t,runT rs s=t:=⟨_,rfl⟩
 rw [htt] at ht g2 h2 ⊢
 have hun:intsU (units t)=(endOf rs s).2:=by
  refine units_made hB s t g1.rn (endOf rs s).2 s.size 0 t.size 0 (by simp) hU rfl (by omega) ?_ (by omega)
  rw [ht]
  simp
 have r1:=back_units_run hB g1.rn [] (endOf rs s).2 (by simp) (Tl.nil rs) hO
 rw [List.nil_append] at r1
 rw [hun] at g2
 have:=g2.rn.one r1
 unfold runT
 rw [if_pos h2,this,join_units]
end Go.Proofs
namespace Go.Proofs
open Go.RowKit Go.Shelf
set_option maxRecDepth 100000
attribute [local go_sem] Oper.semAt_some
end Go.Proofs
namespace Go.Proofs
open Go.RowKit Go.Shelf
set_option maxRecDepth 100000
attribute [local go_sem] Oper.semAt_some
end Go.Proofs
namespace Go.Proofs
open Go.RowKit Go.Shelf
set_option maxRecDepth 100000
attribute [local go_sem] Oper.semAt_some
end Go.Proofs
namespace Go.Proofs
open Go.RowKit Go.Shelf
set_option maxRecDepth 100000
attribute [local go_sem] Oper.semAt_some
attribute [local go_sem ↓] Go.wp_at_zero Go.wp_at_succ
end Go.Proofs
namespace Go.Proofs
open Go.RowKit Go.Shelf
set_option maxRecDepth 100000
attribute [local go_sem] Oper.semAt_some
end Go.Proofs
namespace Go.Proofs
open Go.RowKit Go.Shelf
set_option maxRecDepth 100000
attribute [local go_sem] Oper.semAt_some
end Go.Proofs
namespace Go.Proofs
open Go.RowKit Go.Shelf
end Go.Proofs
namespace Go.Proofs
open Go.RowKit Go.Shelf
set_option maxRecDepth 100000
attribute [local go_sem] Oper.semAt_some
end Go.Proofs
namespace Go.Proofs
open Go.RowKit Go.Shelf
set_option maxRecDepth 100000
attribute [local go_sem] Oper.semAt_some
end Go.Proofs
namespace Go.Proofs
open Go.RowKit Go.Shelf
set_option maxRecDepth 100000
attribute [local go_sem] Oper.semAt_some
end Go.Proofs
namespace Go.Proofs
open Go.RowKit Go.Shelf
set_option maxRecDepth 100000
attribute [local go_sem] Oper.semAt_some
end Go.Proofs
namespace Go.Proofs
open Go.RowKit Go.Shelf
set_option maxRecDepth 100000
attribute [local go_sem] Oper.semAt_some
end Go.Proofs
namespace Go.Proofs
open Go.RowKit Go.Shelf
set_option maxRecDepth 100000
attribute [local go_sem] Oper.semAt_some
end Go.Proofs
namespace Go.Proofs
open Go.RowKit Go.Shelf
set_option maxRecDepth 100000
attribute [local go_sem] Oper.semAt_some
def IsB (e:Ending):Prop:=∃ b,e = .returned (.bool b)
end Go.Proofs
