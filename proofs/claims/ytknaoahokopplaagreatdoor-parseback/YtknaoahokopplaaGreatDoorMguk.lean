/-
  Several texts in one (Knk Kok Kgk).
-/
import Derived.Test.YtknaoahokopplaaGreatDoorMgmk
import Derived.Test.YtknaoahokopplaaGreatDoorMgik
import Derived.Test.YtknaoahokopplaaGreatDoorMgjk
import Derived.Shelf.Abstract
import Derived.Shelf.RegionOpen
import Derived.WalkKit
import Derived.WalkSpells
import Derived.WalkLawsBesides
import Derived.BigQuiet
import Derived.Deep.QuietTactic
import Derived.Deep.LoopGhost
import Derived.Lib.OthersKept
import Derived.WalkMore
import Derived.Lib.ParseIntB
import Derived.Test.YtknaoahokopplaaGreatDoorMgkk
namespace Go.Proofs
open Go.RowKit Go.Shelf
set_option maxRecDepth 100000
theorem both_class (s:ByteArray) (hs:s.size≤1000000) (q:Nat) (h:q<s.size) (fresh:Bool) (h91:s[q].toNat=91) (hp:Lib.hasPrefix (s.data.toList.drop q) [91,58]=true):Both s q fresh:=by
 have h2:q+2≤s.size:=by have:=pre_len hp;simp at this;omega
 obtain ⟨r,hr⟩:∃ r,s.extract q s.size=r:=⟨_,rfl⟩
 have hz:r.size=s.size - q:=by rw [←hr];exact ext_size s q
 have h0:0<r.size:=by omega
 have h2r:2≤r.size:=by omega
 have hsm:r.size≤maxLen:=by rw [hz];unfold maxLen;omega
 have hL:r.data.toList=s.data.toList.drop q:=by rw [←hr];exact ext_drop s q
 have hc0:r[0].toNat=91:=by subst hr;rw [ext_at0 h];exact h91
 have hpr:Lib.hasPrefix r.data.toList [91,58]=true:=by rw [hL];exact hp
 obtain ⟨n,hn⟩:∃ n,spanN isNm (s.data.toList.drop (q+2))=n:=⟨_,rfl⟩
 have hnr:spanN isNm (r.extract 2 r.size).data.toList=n:=by rw [ext_drop,hL,List.drop_drop];exact hn
 obtain ⟨x,hx⟩:∃ x,r.extract (2+n) r.size=x:=⟨_,rfl⟩
 have hle:=span2_le r n h2r hnr
 have hxz:x.size=r.size - (2+n):=by rw [←hx,ext_size]
 have hxL:x.data.toList=s.data.toList.drop (q+2+n):=by rw [←hx,ext_drop,hL,List.drop_drop,Nat.add_assoc]
 have h36:s[q].toNat≠36:=by omega
 unfold Both
 rw [hr]
 have to37:∀ (k a l u:Int) (t:ByteArray) (n e0:Int),Tells 79 #[.string s,.int .i64 q] k a l u t n e0→Tells 45 #[.string s,.int .i64 q,.bool fresh] k a l u t n e0:=fun k a l u t n e0 hT=>rtok_class s q fresh hs h h36 hp k a l u t n e0 hT
 have to39:∀ (k a l u:Int) (t:ByteArray) (n e0:Int),Tells 89 #[.string r] k a l u t n e0→Tells 47 #[.string r,.bool fresh] k a l u t n e0:=fun k a l u t n e0 hT=>first_class r fresh k a l u t n e0 hsm h0 hc0 hpr hT
 by_cases h32:32<n
 · exact .inl ⟨42,by decide,to39 0 0 0 0 ⟨#[]⟩ 0 42 (fun w=>class_many r x n w hsm h2r hnr hx h32 rfl),to37 0 0 0 0 ⟨#[]⟩ 0 42 (rclass_many s q n hs h2 hn h32)⟩
 have h32':n≤32:=by omega
 by_cases hxe:x.size=0
 · exact .inl ⟨44,by decide,to39 0 0 0 0 ⟨#[]⟩ 0 44 (fun w=>class_open1 r x n w hsm h2r hnr hx h32' rfl ((empty_iff x).2 hxe)),to37 0 0 0 0 ⟨#[]⟩ 0 44 (rclass_open1 s q n hs h2 hn h32' (by omega))⟩
 have hxn:=empty_no (r:=x) (by omega)
 by_cases hn0:n=0
 · subst hn0
   have hx2:r.extract 2 r.size=x:=by simpa using hx
   exact .inl ⟨42,by decide,to39 0 0 0 0 ⟨#[]⟩ 0 42 (fun w=>class_bad0 r x w hsm h2r hx2 (by rw [←hx2];exact hnr) rfl hxn),to37 0 0 0 0 ⟨#[]⟩ 0 42 (rclass_bad0 s q 0 hs h2 hn rfl (by omega))⟩
 have hcx:(x.toList == [58])=true↔(q+2+n+1=s.size∧∃ hh:q+2+n<s.size,s[q+2+n].toNat=58):=by
  rw [beq_iff_eq,Lib.toList_data,hxL]
  have hh:q+2+n<s.size:=by omega
  rw [drop_at hh]
  constructor
  · intro e
    obtain ⟨e1,e2⟩:=List.cons.inj e
    have:=congrArg List.length e2
    simp at this
    exact ⟨by omega,hh,by rw [e1];rfl⟩
  · rintro ⟨e1,_,e2⟩
    rw [List.drop_of_length_le (by simp;omega),show s[q+2+n]=58 from UInt8.toNat_inj.1 e2]
 by_cases hc:(x.toList == [58])=true
 · obtain ⟨e1,_,e2⟩:=hcx.1 hc
   exact .inl ⟨44,by decide,to39 0 0 0 0 ⟨#[]⟩ 0 44 (fun w=>class_open2 r x n w hsm h2r hnr hx h32' rfl (by omega) hxn hc),to37 0 0 0 0 ⟨#[]⟩ 0 44 (rclass_open2 s q n hs h2 hn h32' (by omega) e1 e2)⟩
 have hc':(x.toList == [58])=false:=by simpa using hc
 by_cases hp2:Lib.hasPrefix x.data.toList [58,93]=true
 · have hql:2≤x.size:=by have:=pre_len hp2;simpa using this
   have hT:=rclass_ok s q n hs h2 hn h32' (by omega) (by rw [←hxL];exact hp2) (by omega)
   have hm:r.extract 1 (2+n+1)=s.extract (q+1) (q+2+n+1):=by
    apply ByteArray.ext
    apply Array.toList_inj.1
    simp only [ByteArray.data_extract,Array.toList_extract,List.extract]
    rw [hL,List.drop_drop,show q+2+n+1 - (q+1)=2+n+1 - 1 by omega]
   refine .inr ⟨2,2+n+2,0,s.extract (q+1) (q+2+n+1),0,?_,?_,by omega,by omega⟩
   · have:=to39 2 0 (2+n+2) 0 (r.extract 1 (2+n+1)) 0 0 (fun w=>class_ok r x n w hsm h2r hnr hx h32' hp2 (by omega) hxn hc' (by omega))
     rw [hm] at this
     rw [show ((2+n+2:Nat):Int)=2+(n:Int)+2 by omega]
     exact this
   · rw [show ((2+n+2:Nat):Int)=(n:Int)+4 by omega]
     exact to37 2 q _ 0 _ 0 0 hT
 · exact .inl ⟨42,by decide,to39 0 0 0 0 ⟨#[]⟩ 0 42 (fun w=>class_bad1 r x n w hsm h2r hnr hx h32' (by simpa using hp2) (by omega) hxn hc'),to37 0 0 0 0 ⟨#[]⟩ 0 42 (rclass_bad1 s q n hs h2 hn h32' (by omega) (by omega) (fun e e2=>hc (hcx.2 ⟨e,by omega,e2⟩)) (by rw [←hxL];simpa using hp2))⟩
end Go.Proofs
namespace Go.Proofs
open Go.RowKit Go.Shelf
set_option maxRecDepth 100000
theorem val10_fits (l:List UInt8):∀ (a:Nat),(∀ c∈l,isDg c=true)→val10 a l<(a+1)*10 ^ l.length:=by
 induction l with
 | nil=>
  intro a _
  show a<_
  rw [List.length_nil,Nat.pow_zero]
  omega
 | cons c l ih=>
  intro a h
  have h1:=ih (a*10+(c.toNat - 48)) (fun x hx=>h x (List.mem_cons_of_mem _ hx))
  have h2:=h c List.mem_cons_self
  simp only [isDg,Bool.and_eq_true,decide_eq_true_eq] at h2
  show val10 (a*10+(c.toNat - 48)) l<_
  rw [List.length_cons,Nat.pow_succ]
  refine Nat.lt_of_lt_of_le h1 ?_
  rw [Nat.mul_comm (10 ^ l.length) 10,←Nat.mul_assoc]
  exact Nat.mul_le_mul_right _ (by omega)
theorem both_copy (s:ByteArray) (hs:s.size≤1000000) (q:Nat) (h:q<s.size) (fresh:Bool) (h64:s[q].toNat=64):Both s q fresh:=by
 obtain ⟨r,hr⟩:∃ r,s.extract q s.size=r:=⟨_,rfl⟩
 have hz:r.size=s.size - q:=by rw [←hr];exact ext_size s q
 have h0:0<r.size:=by omega
 have hsm:r.size≤maxLen:=by rw [hz];unfold maxLen;omega
 have hL:r.data.toList=s.data.toList.drop q:=by rw [←hr];exact ext_drop s q
 have hc0:r[0]=s[q]:=by subst hr;exact ext_at0 h
 have e64:s[q]=64:=UInt8.toNat_inj.1 h64
 have hi:Lib.indexByte sgnL s[q] = -1:=by rw [e64];decide +kernel
 have hp:Lib.hasPrefix (s.data.toList.drop q) [91,58]=false:=by rw [←hL];exact noPre r h0 (by rw [hc0];omega)
 obtain ⟨n,hn⟩:∃ n,spanN isDg (s.data.toList.drop (q+1))=n:=⟨_,rfl⟩
 have hnr:spanN isDg (r.extract 1 r.size).data.toList=n:=by rw [ext_drop,hL,List.drop_drop];exact hn
 have hle:q+1+n≤s.size:=by
  have:=spanN_le isDg (s.data.toList.drop (q+1))
  rw [hn] at this
  simp at this
  omega
 have h1c:∀ h1:q+1<s.size,r[1]'(by omega)=s[q+1]:=fun h1=>by
  have e1:=drop_at (s:=r) (k:=1) (by omega)
  rw [hL,List.drop_drop,drop_at h1] at e1
  exact (List.cons.inj e1).1.symm
 unfold Both
 rw [hr]
 have to39:∀ (k a l u:Int) (t:ByteArray) (n e0:Int),Tells 90 #[.string r] k a l u t n e0→Tells 47 #[.string r,.bool fresh] k a l u t n e0:=fun k a l u t n e0 hT=>first_copy r fresh k a l u t n e0 h0 (by rw [hc0];exact h64) hT
 have to37:∀ (k a l u:Int) (t:ByteArray) (n e0:Int),Tells 81 #[.string s,.int .i64 q] k a l u t n e0→Tells 45 #[.string s,.int .i64 q,.bool fresh] k a l u t n e0:=fun k a l u t n e0 hT=>rtok_copy s q fresh hs h h64 hp hi k a l u t n e0 hT
 have bad:(n=0∨9<n∨∃ h:q+1<s.size,s[q+1].toNat=48)→Tells 81 #[.string s,.int .i64 q] 0 0 0 0 ⟨#[]⟩ 0 43:=fun hb w=>
  rcopied_walk s q n hs (by omega) hn w _ (fun _ w' hw=>⟨rfl,hw⟩) (fun g1 g2 g3=>by
   rcases hb with hb | hb | ⟨hb,hb2⟩
   · omega
   · omega
   · exact absurd hb2 (g3 hb))
 by_cases hn0:n=0
 · subst hn0
   exact .inl ⟨43,by decide,to39 0 0 0 0 ⟨#[]⟩ 0 43 (cop_zero r hsm h0 hnr),to37 0 0 0 0 ⟨#[]⟩ 0 43 (bad (.inl rfl))⟩
 by_cases h9:9<n
 · exact .inl ⟨43,by decide,to39 0 0 0 0 ⟨#[]⟩ 0 43 (cop_many r hsm h0 n hnr h9),to37 0 0 0 0 ⟨#[]⟩ 0 43 (bad (.inr (.inl h9)))⟩
 have h1:q+1<s.size:=by omega
 by_cases hc:s[q+1].toNat=48
 · exact .inl ⟨43,by decide,to39 0 0 0 0 ⟨#[]⟩ 0 43 (cop_nought r hsm h0 n hnr (by omega) (by omega) (by omega) (by rw [h1c h1];exact hc)),to37 0 0 0 0 ⟨#[]⟩ 0 43 (bad (.inr (.inr ⟨h1,hc⟩)))⟩
 have e:(r.extract 1 (1+n)).data.toList=(s.data.toList.drop (q+1)).take n:=by
  simp only [ByteArray.data_extract,Array.toList_extract,List.extract]
  rw [hL,List.drop_drop,Nat.add_sub_cancel_left]
 have hdg:∀ c∈(r.extract 1 (1+n)).data.toList,isDg c=true:=by
  intro c hc
  rw [e,←hn] at hc
  exact take_span isDg _ c hc
 have hlen:(r.extract 1 (1+n)).data.toList.length=n:=by
  rw [e,List.length_take,List.length_drop]
  simp
  omega
 have hv:Lib.parseIntB 64 (r.extract 1 (1+n)).data.toList = .ok (val10 0 ((s.data.toList.drop (q+1)).take n)):=by
  rw [←e]
  exact int_val _ (by intro e;rw [e] at hlen;simp at hlen;omega) hdg (by omega) (by
   have h1:=val10_fits _ 0 hdg
   rw [hlen] at h1
   have h2:10 ^ n≤10 ^ 9:=Nat.pow_le_pow_right (by decide) (by omega)
   have h3:10 ^ 9=1000000000:=by decide
   omega)
 refine .inr ⟨3,1+n,0,⟨#[]⟩,val10 0 ((s.data.toList.drop (q+1)).take n),?_,?_,by omega,by omega⟩
 · have:=to39 3 0 (1+n) 0 ⟨#[]⟩ _ 0 (cop_ok r hsm h0 n hnr (by omega) (by omega) (by omega) (by rw [h1c h1];exact hc) _ hv)
   rw [show ((1+n:Nat):Int)=1+(n:Int) by omega]
   exact this
 · rw [show ((1+n:Nat):Int)=(n:Int)+1 by omega]
   refine to37 3 q _ 0 ⟨#[]⟩ _ 0 (fun w=>rcopied_walk s q n hs (by omega) hn w _ (fun hb => ?_) (fun _ _ _ w' hw=>⟨rfl,hw⟩))
   rcases hb with hb | hb | ⟨hb,hb2⟩
   · omega
   · omega
   · exact absurd hb2 hc
end Go.Proofs
namespace Go.Proofs
open Go.RowKit Go.Shelf
set_option maxRecDepth 100000
attribute [local go_sem] Oper.semAt_some
set_option maxHeartbeats 4000000 in
theorem resc_bwalk (s:ByteArray) (p q:Nat) (hs:s.size≤1000000) (hp:p+2<s.size) (hc:s[p+1].toNat=98) (h2:s[p+2].toNat=123) (hq:spanN isHx (s.data.toList.drop (p+3))=q) (w:World) (R:Ending→World→Prop)
 (n u:Nat) (hn:n=min 2 q) (hu:u=val16 0 ((s.data.toList.drop (p+3)).take n))
 (h44:p+3+n=s.size→∀ w',Below w.heap.size w w'→R (.returned (.tuple #[tk0,.int .i64 44])) w')
 (h41:(∃ h:p+3+n<s.size,s[p+3+n].toNat≠125∨n=0∨n≠2∨u<128)→∀ w',Below w.heap.size w w'→R (.returned (.tuple #[tk0,.int .i64 41])) w')
 (hok:∀ h:p+3+n<s.size,s[p+3+n].toNat=125→n≠0→¬ (n≠2∨u<128)→∀ w',Below w.heap.size w w'→R (.returned (.tuple #[tk 1 p (n+4) ((u:Int)+1114112) ⟨#[]⟩ 0,.int .i64 0])) w') :
 Calls Tryz.prog 82 #[.string s,.int .i64 p] w R:=by
 obtain ⟨z,hz⟩:∃ z,s.size=z:=⟨_,rfl⟩
 have hpI:(p:Int)≤1000000:=by omega
 have hp0:(0:Int)≤(p:Int):=by omega
 have hlt:(p:Int)+1<(z:Int):=by omega
 have hne:((p:Int)+1 == (z:Int))=false:=by simp;omega
 have he:((p:Int)+2 == (z:Int))=false:=by simp;omega
 have hlt2:(p:Int)+2<(z:Int):=by omega
 have H0:Hid (EscRel s.data.toList z p 2 q 0 0):=⟨by omega,by omega,by simpa using hq.symm,rfl,by decide⟩
 have HP:Hid ((p+3+n=s.size→∀ w',Below w.heap.size w w'→R (.returned (.tuple #[tk0,.int .i64 44])) w')∧((∃ h:p+3+n<s.size,s[p+3+n].toNat≠125∨n=0∨n≠2∨u<128)→∀ w',Below w.heap.size w w'→R (.returned (.tuple #[tk0,.int .i64 41])) w')∧(∀ h:p+3+n<s.size,s[p+3+n].toNat=125→n≠0→¬ (n≠2∨u<128)→∀ w',Below w.heap.size w w'→R (.returned (.tuple #[tk 1 p (n+4) ((u:Int)+1114112) ⟨#[]⟩ 0,.int .i64 0])) w')):=⟨h44,h41,hok⟩
 have HU:Hid (n=min 2 q∧u=val16 0 ((s.data.toList.drop (p+3)).take n)):=⟨hn,hu⟩
 clear hq hn hu h44 h41 hok
 go_enter Tryz.func82,Tryz.ntmps82
 go_wp2
 go_loopw [8,9] (fun vn vu wr=>∃ k v:Nat,vn = .int .i64 k∧vu = .int .i64 v∧Hid (EscRel s.data.toList z p 2 q k v)∧wr=w.alloc (.cells #[.int .i64 0,.int .i64 0,.int .i64 0,.int .i64 0,.string ⟨#[]⟩,.int .i64 0] 52)) (fun vn _ _=>2 - (intOf vn).toNat)
 case atStart=>exact ⟨0,0,rfl,rfl,H0,rfl⟩
 case round=>
  obtain ⟨k,v,rfl,rfl,HR,rfl⟩:=hrel
  obtain ⟨hk,hkm,-,hvv,hul⟩:=HR.out
  have hkI:(k:Int)≤2:=by omega
  have hk0:(0:Int)≤(k:Int):=by omega
  have hu24:v<16777216:=Nat.lt_of_lt_of_le hul (Nat.le_trans (Nat.pow_le_pow_right (by omega) (show k≤6 by omega)) (by decide))
  have huI:(v:Int)≤16777216:=by omega
  have hu0:(0:Int)≤(v:Int):=by omega
  by_cases hgo:k<2∧∃ h:p+3+k<s.size,isHx s[p+3+k]=true
  · obtain ⟨hkl,hks,hb⟩:=hgo
    have hkl':(k:Int)<2:=by omega
    have hlt':(p:Int)+3+(k:Int)<(z:Int):=by omega
    obtain ⟨hd1,hd2⟩:=dg16_nat _ hb
    have H2:Hid (EscRel s.data.toList z p 2 q (k+1) (16*v+(dg16 s[p+3+k]).toNat)):=HR.out.next hz hkl hks hb
    obtain ⟨dd,hdd⟩:∃ dd:Nat,(dg16 s[p+3+k]).toNat=dd:=⟨_,rfl⟩
    rw [hdd] at hd1 hd2 H2
    have HD:Hid (dg16 s[p+3+k]=(dd:Int)):=hd1
    have hdI:(dd:Int)≤15:=by omega
    have hd0:(0:Int)≤(dd:Int):=by omega
    clear hd1 hb hul HR H0 hvv
    go_wp2_with (go_at_call 124;refine (rdigit16_any _ _).mono ?_;rintro e w1 ⟨rfl,rfl⟩;rw [HD.out])
    exact ⟨⟨k+1,16*v+dd,by go_num,by go_num,H2,(by first | rfl | trivial)⟩,by simp [intOf];omega⟩
  · have hn:k=min 2 q:=HR.out.stop hz (by
     by_cases h:k<2
     · right
       intro hlt
       cases hb:isHx s[p+3+k]
       · rfl
       · exact absurd ⟨h,hlt,hb⟩ hgo
     · left;omega)
    have hkn:k=n:=by rw [HU.out.1];exact hn
    have huv:v=u:=by rw [HU.out.2,←hkn];exact hvv
    have HBl:Hid (Below w.heap.size w (w.alloc (.cells #[.int .i64 0,.int .i64 0,.int .i64 0,.int .i64 0,.string ⟨#[]⟩,.int .i64 0] 52))):=(Below.refl _ w).alloc (Nat.le_refl _) _
    have hreason:k=2∨(k<2∧p+3+k=s.size)∨(k<2∧∃ h:p+3+k<s.size,dg16 s[p+3+k] = -1):=by
     by_cases h:k<2
     · right
       by_cases hlt:p+3+k<s.size
       · right
         refine ⟨h,hlt,dg16_no _ ?_⟩
         cases hb:isHx s[p+3+k]
         · rfl
         · exact absurd ⟨h,hlt,hb⟩ hgo
       · left;exact ⟨h,by omega⟩
     · left;omega
    clear hul HR H0 hgo hn hvv HU
    subst hkn huv
    rcases hreason with hr | ⟨hkl,hend⟩ | ⟨hkl,hks,hd⟩
    · subst hr
      by_cases hend:p+3+2=s.size
      · have hend':(p:Int)+3+2=(z:Int):=by omega
        go_wp2
        exact bodyPost_ret (v := .tuple #[tk0,.int .i64 44]) (by simp [results,Tryz.f82,go_sem]) rfl (HP.out.1 (by omega) _ HBl.out)
      have hlt3:p+3+2<s.size:=by omega
      have hlt3':(p:Int)+3+2<(z:Int):=by omega
      have hne3:((p:Int)+3+2 == (z:Int))=false:=by simp;omega
      by_cases h125:s[p+3+2].toNat=125
      · have h125':((s[p+3+2].toNat:Int) != 125)=false:=by simp [h125]
        have H125:Hid (s[p+3+2].toNat=125):=h125
        clear h125
        by_cases hlow:v<128
        · have hlow':(v:Int)<128:=by omega
          go_wp2
          exact bodyPost_ret (v := .tuple #[tk0,.int .i64 41]) (by simp [results,Tryz.f82,go_sem]) rfl (HP.out.2.1 ⟨hlt3,.inr (.inr (.inr hlow))⟩ _ HBl.out)
        have hlow':(128:Int)≤(v:Int):=by omega
        go_wp2
        have HF:=HP.out.2.2 hlt3 H125.out (by decide) (fun h=>h.elim (fun h=>absurd rfl h) (fun h=>by omega)) (w.alloc (.cells #[.int .i64 1,.int .i64 p,.int .i64 6,.int .i64 ((v:Int)+1114112),.string ⟨#[]⟩,.int .i64 0] 52)) ((Below.refl _ w).alloc (Nat.le_refl _) _)
        exact bodyPost_ret (v := .tuple #[tk 1 p 6 ((v:Int)+1114112) ⟨#[]⟩ 0,.int .i64 0]) (by simp [results,Tryz.f82,go_sem]) rfl HF
      · have h125':((s[p+3+2].toNat:Int) != 125)=true:=by simp only [bne_iff_ne,ne_eq];omega
        go_wp2
        exact bodyPost_ret (v := .tuple #[tk0,.int .i64 41]) (by simp [results,Tryz.f82,go_sem]) rfl (HP.out.2.1 ⟨hlt3,.inl h125⟩ _ HBl.out)
    · have hend':(p:Int)+3+(k:Int)=(z:Int):=by omega
      have hkl':(k:Int)<2:=by omega
      go_wp2
      exact bodyPost_ret (v := .tuple #[tk0,.int .i64 44]) (by simp [results,Tryz.f82,go_sem]) rfl (HP.out.1 (by omega) _ HBl.out)
    · have hlt3:p+3+k<s.size:=hks
      have hkl':(k:Int)<2:=by omega
      have hlt3':(p:Int)+3+(k:Int)<(z:Int):=by omega
      have hne3:((p:Int)+3+(k:Int) == (z:Int))=false:=by simp;omega
      by_cases h125:s[p+3+k].toNat=125
      · have h125':((s[p+3+k].toNat:Int) != 125)=false:=by simp [h125]
        have H125:Hid (s[p+3+k].toNat=125):=h125
        clear h125
        by_cases hk0p:k=0
        · subst hk0p
          go_wp2_with (first | (go_at_call 124;refine (rdigit16_any _ _).mono ?_;rintro e w1 ⟨rfl,rfl⟩;rw [hd]) | (go_at_call 125;refine (rwidth_any _ _).mono ?_;rintro e w1 ⟨rfl,rfl⟩))
          exact bodyPost_ret (v := .tuple #[tk0,.int .i64 41]) (by simp [results,Tryz.f82,go_sem]) rfl (HP.out.2.1 ⟨hlt3,.inr (.inl (by first | rfl | trivial))⟩ _ HBl.out)
        have hkz:((k:Int) == 0)=false:=by simp;omega
        have hk2:((k:Int) != 2)=true:=by simp only [bne_iff_ne,ne_eq];omega
        go_wp2_with (first | (go_at_call 124;refine (rdigit16_any _ _).mono ?_;rintro e w1 ⟨rfl,rfl⟩;rw [hd]) | (go_at_call 125;refine (rwidth_any _ _).mono ?_;rintro e w1 ⟨rfl,rfl⟩))
        exact bodyPost_ret (v := .tuple #[tk0,.int .i64 41]) (by simp [results,Tryz.f82,go_sem]) rfl (HP.out.2.1 ⟨hlt3,.inr (.inr (.inl (by omega)))⟩ _ HBl.out)
      · have h125':((s[p+3+k].toNat:Int) != 125)=true:=by simp only [bne_iff_ne,ne_eq];omega
        go_wp2_with (first | (go_at_call 124;refine (rdigit16_any _ _).mono ?_;rintro e w1 ⟨rfl,rfl⟩;rw [hd]) | (go_at_call 125;refine (rwidth_any _ _).mono ?_;rintro e w1 ⟨rfl,rfl⟩))
        exact bodyPost_ret (v := .tuple #[tk0,.int .i64 41]) (by simp [results,Tryz.f82,go_sem]) rfl (HP.out.2.1 ⟨hlt3,.inl h125⟩ _ HBl.out)
end Go.Proofs
