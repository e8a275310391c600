/-
  An escape: the program and the document read the same.
-/
import Derived.Test.YtknaoahokopplaaGreatDoorMgmk
import Derived.Test.YtknaoahokopplaaGreatDoorMguk
namespace Go.Proofs
open Go.RowKit Go.Shelf
set_option maxRecDepth 100000
theorem hdv_dg (c:UInt8) (h:isHx c=true):hdv c=(dg16 c).toNat:=by
 simp only [isHx,isDg,Bool.or_eq_true,Bool.and_eq_true,decide_eq_true_eq] at h
 unfold dg16 hdv
 simp only [isDg,Bool.and_eq_true,decide_eq_true_eq]
 repeat' split
 all_goals omega
theorem valH_val16 (l:List UInt8):∀ a:Nat,(∀ c∈l,isHx c=true)→l.foldl (fun n c=>n*16+hdv c) a=val16 a l:=by
 induction l with
 | nil=>intro a _;rfl
 | cons c l ih=>
  intro a h
  show l.foldl _ (a*16+hdv c)=val16 (a*16+(dg16 c).toNat) l
  rw [hdv_dg c (h c List.mem_cons_self)]
  exact ih _ (fun x hx=>h x (List.mem_cons_of_mem _ hx))
theorem ext_at (s:ByteArray) (q i:Nat) (h:q+i<s.size):(s.extract q s.size)[i]'(by rw [ByteArray.size_extract];omega)=s[q+i]:=by
 have h1:=drop_at (s:=s.extract q s.size) (k:=i) (by rw [ByteArray.size_extract];omega)
 rw [ext_drop,List.drop_drop,drop_at h] at h1
 exact (List.cons.inj h1).1.symm
theorem span_hit (f:UInt8→Bool):∀ (l:List UInt8) (k:Nat) (_:k<spanN f l) (h2:k<l.length),f l[k]=true
 | [],_,_,h2=>absurd h2 (by simp)
 | c::l,k,h,h2=>by
  rw [spanN_cons] at h
  cases hc:f c with
  | false=>rw [hc] at h;simp at h
  | true=>
   rw [hc] at h
   cases k with
   | zero=>exact hc
   | succ k=>exact span_hit f l k (by simp at h;omega) (by simpa using h2)
theorem braced_both (s:ByteArray) (hs:s.size≤1000000) (q:Nat) (h2:q+2<s.size) (hc:s[q+2].toNat=123) (r:ByteArray) (hr:s.extract q s.size=r) (most:Nat) (h6:most≤6) (k n u:Nat) (hk:spanN isHx (s.data.toList.drop (q+3))=k) (hn:n=min most k) (hu:u=val16 0 ((s.data.toList.drop (q+3)).take n)) :
 (q+3+n=s.size∧BTells r most 0 0 44)∨(∃ h:q+3+n<s.size,(s[q+3+n].toNat≠125∨n=0)∧BTells r most 0 0 41)∨(∃ h:q+3+n<s.size,s[q+3+n].toNat=125∧n≠0∧BTells r most u (3+n+1) 0∧u<16 ^ n):=by
 have hz:r.size=s.size - q:=by rw [←hr];exact ext_size s q
 have hsm:r.size≤maxLen:=by rw [hz];unfold maxLen;omega
 have hL:r.data.toList=s.data.toList.drop q:=by rw [←hr];exact ext_drop s q
 have h3:3≤r.size:=by omega
 have hc2:r[2].toNat=123:=by subst hr;rw [ext_at s q 2 h2];exact hc
 have hkr:spanN isHx (r.extract 3 r.size).data.toList=k:=by rw [ext_drop,hL,List.drop_drop];exact hk
 have hle:q+3+k≤s.size:=by
  have:=spanN_le isHx (s.data.toList.drop (q+3))
  rw [hk] at this
  simp at this
  omega
 by_cases hm:most<k
 · obtain rfl:n=most:=by omega
   have hlt:q+3+n<s.size:=by omega
   have hx:=span_hit isHx (s.data.toList.drop (q+3)) n (by omega) (by simp;omega)
   have hx2:isHx s[q+3+n]=true:=by
    have e:=drop_at hlt
    have e2:(s.data.toList.drop (q+3))[n]'(by simp;omega)=s[q+3+n]:=by
     simp [ByteArray.getElem_eq_getElem_data]
    rw [←e2];exact hx
   refine .inr (.inl ⟨hlt,.inl ?_,fun w=>braced_many r n _ k w hsm h6 h3 hc2 hkr rfl hm⟩)
   intro e
   have e3:s[q+3+n]=125:=UInt8.toNat_inj.1 e
   rw [e3] at hx2
   exact absurd hx2 (by decide)
 · obtain rfl:n=k:=by omega
   obtain ⟨t,ht⟩:∃ t,r.extract (3+n) r.size=t:=⟨_,rfl⟩
   have htz:t.size=r.size - (3+n):=by rw [←ht,ext_size]
   by_cases hend:q+3+n=s.size
   · exact .inl ⟨hend,fun w=>braced_open r most t n w hsm h6 h3 hc2 hkr ht (by omega) ((empty_iff t).2 (by omega))⟩
   have hlt:q+3+n<s.size:=by omega
   have htn:=empty_no (r:=t) (by omega)
   by_cases hn0:n=0
   · subst hn0
     have hq3:r.extract 3 r.size=t:=by simpa using ht
     exact .inr (.inl ⟨hlt,.inr rfl,fun w=>braced_zero r most t w hsm h3 hc2 hq3 (by rw [←hq3];exact hkr) htn⟩)
   have ht0:t[0]'(by omega)=s[q+3+n]:=by
    have e1:=drop_at (s:=t) (k:=0) (by omega)
    have e2:t.data.toList=s.data.toList.drop (q+3+n):=by rw [←ht,ext_drop,hL,List.drop_drop];congr 1;omega
    rw [List.drop_zero,e2,drop_at hlt] at e1
    exact (List.cons.inj e1).1.symm
   by_cases h125:s[q+3+n].toNat=125
   · have e:(r.extract 3 (3+n)).data.toList=(s.data.toList.drop (q+3)).take n:=by
      simp only [ByteArray.data_extract,Array.toList_extract,List.extract]
      rw [hL,List.drop_drop,Nat.add_sub_cancel_left]
     have hall:=span_all r n h3 hkr
     have hlen:(r.extract 3 (3+n)).data.toList.length=n:=by
      rw [e,List.length_take,List.length_drop]
      simp
      omega
     have hv:valH (r.extract 3 (3+n)).data.toList=u:=by
      rw [hu,←e]
      exact valH_val16 _ 0 hall
     refine .inr (.inr ⟨hlt,h125,hn0,fun w => ?_,?_⟩)
     · exact braced_ok r most t n w hsm h6 h3 hc2 hkr ht (by omega) (by omega) htn (by omega) (by rw [ht0];exact h125) u hv
     · have:=valH_lt _ hall
       rw [hlen,hv] at this
       exact this
   · exact .inr (.inl ⟨hlt,.inl h125,fun w=>braced_nc r most t n w hsm h6 h3 hc2 hkr ht (by omega) (by omega) htn (by omega) (by rw [ht0];exact h125)⟩)
theorem both_esc (s:ByteArray) (hs:s.size≤1000000) (q:Nat) (h:q<s.size) (fresh:Bool) (h92:s[q].toNat=92):Both s q fresh:=by
 obtain ⟨r,hr⟩:∃ r,s.extract q s.size=r:=⟨_,rfl⟩
 have hz:r.size=s.size - q:=by rw [←hr];exact ext_size s q
 have h0:0<r.size:=by omega
 have hL:r.data.toList=s.data.toList.drop q:=by rw [←hr];exact ext_drop s q
 have hc0:r[0]=s[q]:=by subst hr;exact ext_at0 h
 have e92:s[q]=92:=UInt8.toNat_inj.1 h92
 have hi:Lib.indexByte sgnL s[q] = -1:=by rw [e92];decide +kernel
 have hp:Lib.hasPrefix (s.data.toList.drop q) [91,58]=false:=by rw [←hL];exact noPre r h0 (by rw [hc0];omega)
 unfold Both
 rw [hr]
 have to39:∀ (k a l u:Int) (t:ByteArray) (n e0:Int),Tells 91 #[.string r] k a l u t n e0→Tells 47 #[.string r,.bool fresh] k a l u t n e0:=fun k a l u t n e0 hT=>first_esc r fresh k a l u t n e0 h0 (by rw [hc0];exact h92) hT
 have to37:∀ (k a l u:Int) (t:ByteArray) (n e0:Int),Tells 82 #[.string s,.int .i64 q] k a l u t n e0→Tells 45 #[.string s,.int .i64 q,.bool fresh] k a l u t n e0:=fun k a l u t n e0 hT=>rtok_esc s q fresh hs h h92 hp hi k a l u t n e0 hT
 have bad:∀ e0:Int,e0≠0→Tells 91 #[.string r] 0 0 0 0 ⟨#[]⟩ 0 e0→Tells 82 #[.string s,.int .i64 q] 0 0 0 0 ⟨#[]⟩ 0 e0→((∃ e0:Int,e0≠0∧Tells 47 #[.string r,.bool fresh] 0 0 0 0 ⟨#[]⟩ 0 e0∧Tells 45 #[.string s,.int .i64 q,.bool fresh] 0 0 0 0 ⟨#[]⟩ 0 e0)∨(∃ (k:Int) (l:Nat) (u:Int) (t:ByteArray) (n:Int),Tells 47 #[.string r,.bool fresh] k 0 l u t n 0∧Tells 45 #[.string s,.int .i64 q,.bool fresh] k q l u t n 0∧0<l∧q+l≤s.size)):=fun e0 he hA hB => .inl ⟨e0,he,to39 0 0 0 0 ⟨#[]⟩ 0 e0 hA,to37 0 0 0 0 ⟨#[]⟩ 0 e0 hB⟩
 by_cases h1:q+1=s.size
 · exact bad 44 (by decide) (esc_end r (by omega)) (resc_end s q hs h1)
 have h1':q+1<s.size:=by omega
 have hr2:2≤r.size:=by omega
 have hc1:r[1]=s[q+1]:=by subst hr;exact ext_at s q 1 h1'
 by_cases hx:s[q+1].toNat=120
 · have hxr:r[1].toNat=120:=by rw [hc1];exact hx
   by_cases h2:q+2=s.size
   · exact bad 44 (by decide) (esc_x r 0 0 0 0 ⟨#[]⟩ 0 44 hr2 hxr (eRune_err r 0 0 44 (fun w=>braced_short r 6 w (by omega)) (by decide))) (resc_xend s q hs h1' hx h2)
   have h2':q+2<s.size:=by omega
   by_cases hb:s[q+2].toNat=123
   · obtain ⟨k,hk⟩:∃ k,spanN isHx (s.data.toList.drop (q+3))=k:=⟨_,rfl⟩
     obtain ⟨n,hn⟩:∃ n,n=min 6 k:=⟨_,rfl⟩
     obtain ⟨u,hu⟩:∃ u,u=val16 0 ((s.data.toList.drop (q+3)).take n):=⟨_,rfl⟩
     rcases braced_both s hs q h2' hb r hr 6 (by omega) k n u hk hn hu with ⟨hend,hB⟩ | ⟨hlt,hwhy,hB⟩ | ⟨hlt,h125,hn0,hB,hul⟩
     · exact bad 44 (by decide) (esc_x r 0 0 0 0 ⟨#[]⟩ 0 44 hr2 hxr (eRune_err r 0 0 44 hB (by decide))) (fun w=>resc_xwalk s q k hs h2' hx hb hk w _ n u hn hu (fun _ w' hw=>⟨rfl,hw⟩) (fun ⟨h,_⟩=>by omega) (fun h=>by omega))
     · exact bad 41 (by decide) (esc_x r 0 0 0 0 ⟨#[]⟩ 0 41 hr2 hxr (eRune_err r 0 0 41 hB (by decide))) (fun w=>resc_xwalk s q k hs h2' hx hb hk w _ n u hn hu (fun h=>by omega) (fun _ w' hw=>⟨rfl,hw⟩) (fun h g1 g2=>by
        rcases hwhy with hw | hw
        · exact absurd g1 hw
        · exact absurd hw g2))
     · by_cases hh:1114111<u
       · exact bad 41 (by decide) (esc_x r 0 0 0 0 ⟨#[]⟩ 0 41 hr2 hxr (eRune_high r u _ hB (by omega))) (fun w=>resc_xwalk s q k hs h2' hx hb hk w _ n u hn hu (fun h=>by omega) (fun _ w' hw=>⟨rfl,hw⟩) (fun h g1 g2 g3=>absurd (.inl hh) g3))
       · by_cases hw:wd u=0
         · exact bad 41 (by decide) (esc_x r 0 0 0 0 ⟨#[]⟩ 0 41 hr2 hxr (eRune_no r u _ hB (by omega) hw)) (fun w=>resc_xwalk s q k hs h2' hx hb hk w _ n u hn hu (fun h=>by omega) (fun _ w' hw=>⟨rfl,hw⟩) (fun h g1 g2 g3=>absurd (.inr hw) g3))
         · refine .inr ⟨1,n+4,u,⟨#[]⟩,0,?_,?_,by omega,by omega⟩
           · have:=to39 1 0 (3+n+1) u ⟨#[]⟩ 0 0 (esc_x r 1 0 (3+n+1) u ⟨#[]⟩ 0 0 hr2 hxr (eRune_ok r u (3+n+1) _ hB (by omega) rfl hw))
             rw [show ((n+4:Nat):Int)=3+(n:Int)+1 by omega]
             exact this
           · rw [show ((n+4:Nat):Int)=(n:Int)+4 by omega]
             exact to37 1 q _ u ⟨#[]⟩ 0 0 (fun w=>resc_xwalk s q k hs h2' hx hb hk w _ n u hn hu (fun h=>by omega) (fun ⟨h,hw2⟩=>by
              exfalso
              rcases hw2 with g | g | g | g
              · exact g h125
              · exact hn0 g
              · exact hh g
              · exact hw g) (fun _ _ _ _ w' hw=>⟨rfl,hw⟩))
   · exact bad 41 (by decide) (esc_x r 0 0 0 0 ⟨#[]⟩ 0 41 hr2 hxr (eRune_err r 0 0 41 (fun w=>braced_nb r 6 w (by omega) (by rw [show r[2]'(by omega)=s[q+2] by subst hr;exact ext_at s q 2 h2'];exact hb)) (by decide))) (resc_xno s q hs h2' hx hb)
 by_cases hbb:s[q+1].toNat=98
 · have hxr:r[1].toNat=98:=by rw [hc1];exact hbb
   by_cases h2:q+2=s.size
   · exact bad 44 (by decide) (esc_b r 0 0 0 0 ⟨#[]⟩ 0 44 hr2 hxr (eStray_err r 0 0 44 (fun w=>braced_short r 2 w (by omega)) (by decide))) (resc_bend s q hs h1' hbb h2)
   have h2':q+2<s.size:=by omega
   by_cases hb:s[q+2].toNat=123
   · obtain ⟨k,hk⟩:∃ k,spanN isHx (s.data.toList.drop (q+3))=k:=⟨_,rfl⟩
     obtain ⟨n,hn⟩:∃ n,n=min 2 k:=⟨_,rfl⟩
     obtain ⟨u,hu⟩:∃ u,u=val16 0 ((s.data.toList.drop (q+3)).take n):=⟨_,rfl⟩
     rcases braced_both s hs q h2' hb r hr 2 (by omega) k n u hk hn hu with ⟨hend,hB⟩ | ⟨hlt,hwhy,hB⟩ | ⟨hlt,h125,hn0,hB,hul⟩
     · exact bad 44 (by decide) (esc_b r 0 0 0 0 ⟨#[]⟩ 0 44 hr2 hxr (eStray_err r 0 0 44 hB (by decide))) (fun w=>resc_bwalk s q k hs h2' hbb hb hk w _ n u hn hu (fun _ w' hw=>⟨rfl,hw⟩) (fun ⟨h,_⟩=>by omega) (fun h=>by omega))
     · exact bad 41 (by decide) (esc_b r 0 0 0 0 ⟨#[]⟩ 0 41 hr2 hxr (eStray_err r 0 0 41 hB (by decide))) (fun w=>resc_bwalk s q k hs h2' hbb hb hk w _ n u hn hu (fun h=>by omega) (fun _ w' hw=>⟨rfl,hw⟩) (fun h g1 g2=>by
        rcases hwhy with hw | hw
        · exact absurd g1 hw
        · exact absurd hw g2))
     · by_cases hh:u<128
       · exact bad 41 (by decide) (esc_b r 0 0 0 0 ⟨#[]⟩ 0 41 hr2 hxr (eStray_low r u _ hB (by omega))) (fun w=>resc_bwalk s q k hs h2' hbb hb hk w _ n u hn hu (fun h=>by omega) (fun _ w' hw=>⟨rfl,hw⟩) (fun h g1 g2 g3=>absurd (.inr hh) g3))
       · have hn2:n=2:=by
          apply Classical.byContradiction
          intro hne
          obtain rfl:n=1:=by omega
          omega
         have hu2:u≤255:=by
          rw [hn2] at hul
          omega
         refine .inr ⟨1,n+4,u+1114112,⟨#[]⟩,0,?_,?_,by omega,by omega⟩
         · have:=to39 1 0 (3+n+1) (1114112+u) ⟨#[]⟩ 0 0 (esc_b r 1 0 (3+n+1) (1114112+u) ⟨#[]⟩ 0 0 hr2 hxr (eStray_ok r u (3+n+1) hB (by omega) (by omega)))
           rw [show ((n+4:Nat):Int)=3+(n:Int)+1 by omega,show ((u:Int)+1114112)=1114112+(u:Int) by omega]
           exact this
         · rw [show ((n+4:Nat):Int)=(n:Int)+4 by omega]
           exact to37 1 q _ _ ⟨#[]⟩ 0 0 (fun w=>resc_bwalk s q k hs h2' hbb hb hk w _ n u hn hu (fun h=>by omega) (fun ⟨h,hw2⟩=>by
            exfalso
            rcases hw2 with g | g | g | g
            · exact g h125
            · exact hn0 g
            · exact g hn2
            · exact hh g) (fun _ _ _ _ w' hw=>⟨rfl,hw⟩))
   · exact bad 41 (by decide) (esc_b r 0 0 0 0 ⟨#[]⟩ 0 41 hr2 hxr (eStray_err r 0 0 41 (fun w=>braced_nb r 2 w (by omega) (by rw [show r[2]'(by omega)=s[q+2] by subst hr;exact ext_at s q 2 h2'];exact hb)) (by decide))) (resc_bno s q hs h2' hbb hb)
 have hxr:r[1].toNat≠120:=by rw [hc1];exact hx
 have hbr:r[1].toNat≠98:=by rw [hc1];exact hbb
 have hP:=resc_plain s q hs h1' hx hbb
 by_cases hlo:s[q+1].toNat<32
 · rw [if_pos (.inl hlo)] at hP
   exact bad 41 (by decide) (esc_low r hr2 hxr hbr (by rw [hc1];exact hlo)) hP
 by_cases hhi:126<s[q+1].toNat
 · rw [if_pos (.inr (.inl hhi))] at hP
   exact bad 41 (by decide) (esc_high r hr2 hxr hbr (by rw [hc1];exact hhi)) hP
 have hnm:∀ c:UInt8,isNm c=true↔(isLt c=true∨isDg c=true∨c.toNat=95):=fun c=>by
  simp only [isNm,isLt,isDg,Bool.or_eq_true,Bool.and_eq_true,decide_eq_true_eq]
  omega
 cases hlt:isLt s[q+1]
 · cases hdg:isDg s[q+1]
   · rw [if_neg (by
      rw [hnm]
      simp only [hlt,hdg]
      intro hh
      rcases hh with hh | hh | ⟨hh,hh2⟩
      · exact hlo hh
      · exact hhi hh
      · rcases hh2 with g | g | g
        · cases g
        · cases g
        · exact hh g)] at hP
     have hA:=esc_ok r hr2 hxr hbr (by rw [hc1];omega) (by rw [hc1];omega) (by rw [hc1];exact hlt) (by rw [hc1];exact hdg)
     rw [hc1] at hA
     exact .inr ⟨1,2,s[q+1].toNat,⟨#[]⟩,0,to39 1 0 2 _ ⟨#[]⟩ 0 0 hA,to37 1 q 2 _ ⟨#[]⟩ 0 0 hP,by omega,by omega⟩
   · have h95:s[q+1].toNat≠95:=by
      intro e
      have e2:s[q+1]=95:=UInt8.toNat_inj.1 e
      rw [e2] at hdg
      exact absurd hdg (by decide)
     rw [if_pos (.inr (.inr ⟨h95,(hnm _).2 (.inr (.inl hdg))⟩))] at hP
     exact bad 41 (by decide) (esc_digit r hr2 hxr hbr (by rw [hc1];omega) (by rw [hc1];omega) (by rw [hc1];exact hlt) (by rw [hc1];exact hdg)) hP
 · have h95:s[q+1].toNat≠95:=by
    intro e
    have e2:s[q+1]=95:=UInt8.toNat_inj.1 e
    rw [e2] at hlt
    exact absurd hlt (by decide)
   rw [if_pos (.inr (.inr ⟨h95,(hnm _).2 (.inl hlt)⟩))] at hP
   exact bad 41 (by decide) (esc_letter r hr2 hxr hbr (by rw [hc1];omega) (by rw [hc1];omega) (by rw [hc1];exact hlt)) hP
end Go.Proofs
