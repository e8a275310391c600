/-
  Several texts in one (Mbk Mdk Plk Pmk Pnk Xfk Xgk).
-/
import Derived.Test.YtknaoahokopplaaGreatDoorMgbk
import Derived.Test.YtknaoahokopplaaGreatDoorMggk
import Derived.Shelf.Abstract
import Derived.Shelf.RegionOpen
import Derived.WalkKit
import Derived.WalkSpells
import Derived.WalkLawsBesides
import Derived.BigQuiet
import Derived.Deep.QuietTactic
import Derived.Deep.LoopGhost
import Derived.Lib.OthersKept
import Derived.ScopeJumps
import Derived.WalkMore
import Derived.Maps.AppendAt
import Derived.Lib.SmallJoins
import Derived.Test.YtknaoahokopplaaGreatDoorMgdk
import Derived.RangeFuncBox
namespace Go.Proofs
open Go.RowKit Go.Shelf
set_option maxRecDepth 100000
theorem uw_le (s:ByteArray) (p:Nat):uw s p≤4:=by
 unfold uw Utf8.decode
 simp only
 repeat' split
 all_goals simp
theorem uw_many (s:ByteArray) (p:Nat) (h:1<uw s p):p+uw s p≤s.size∧(s.get! p).toNat / 64=3∧∀ k,1≤k→k<uw s p→(s.get! (p+k)).toNat / 64=2:=by
 have h0:=(s.get! p).toNat_lt
 unfold uw Utf8.decode at *
 simp only [Nat.add_zero] at *
 split at h
 · simp at h
 · split at h
   · rename_i h1 h2
     simp only [Bool.and_eq_true,decide_eq_true_eq,beq_iff_eq] at h2
     split at h
     · rename_i h3
       rw [if_neg h1,if_pos (by simpa using h2),if_pos h3]
       refine ⟨by simp only;omega,by omega,fun k hk1 hk2 => ?_⟩
       simp only at hk2
       obtain rfl:k=1:=by omega
       omega
     · simp at h
   · split at h
     · rename_i h1 h2 h3
       split at h
       · rename_i h4
         rw [if_neg h1,if_neg h2,if_pos h3,if_pos h4]
         simp only [Bool.and_eq_true,decide_eq_true_eq,beq_iff_eq] at h3
         refine ⟨by simp only;omega,by omega,fun k hk1 hk2 => ?_⟩
         simp only at hk2
         have:k=1∨k=2:=by omega
         rcases this with rfl | rfl <;> omega
       · simp at h
     · split at h
       · rename_i h1 h2 h3 h5
         split at h
         · rename_i h4
           rw [if_neg h1,if_neg h2,if_neg h3,if_pos h5,if_pos h4]
           simp only [Bool.and_eq_true,decide_eq_true_eq,beq_iff_eq] at h5
           refine ⟨by simp only;omega,by omega,fun k hk1 hk2 => ?_⟩
           simp only at hk2
           have:k=1∨k=2∨k=3:=by omega
           rcases this with rfl | rfl | rfl <;> omega
         · simp at h
       · simp at h
def Form (s:ByteArray) (p c n:Nat):Prop:=p+n≤s.size∧Utf8.decode s p=(c,n) ∧
 ((n=2∧128≤c∧c<2048∧(s.get! p).toNat=192+c / 64∧(s.get! (p+1)).toNat=128+c % 64) ∨
  (n=3∧2048≤c∧c<65536∧(c<55296∨57344≤c)∧(s.get! p).toNat=224+c / 4096∧(s.get! (p+1)).toNat=128+c / 64 % 64∧(s.get! (p+2)).toNat=128+c % 64) ∨
  (n=4∧65536≤c∧c<1114112∧(s.get! p).toNat=240+c / 262144∧(s.get! (p+1)).toNat=128+c / 4096 % 64∧(s.get! (p+2)).toNat=128+c / 64 % 64∧(s.get! (p+3)).toNat=128+c % 64))
theorem form_of (s:ByteArray) (p:Nat) (h:1<uw s p):∃ c,Form s p c (uw s p):=by
 have h0:=(s.get! p).toNat_lt
 have h1':=(s.get! (p+1)).toNat_lt
 have h2':=(s.get! (p+2)).toNat_lt
 have h3':=(s.get! (p+3)).toNat_lt
 have hle:=(uw_many s p h).1
 obtain ⟨c,n,hd⟩:∃ c n,Utf8.decode s p=(c,n):=⟨_,_,rfl⟩
 have hn:uw s p=n:=by unfold uw;rw [hd]
 rw [hn] at h hle ⊢
 refine ⟨c,hle,hd,?_⟩
 unfold Utf8.decode at hd
 simp only [Nat.add_zero] at hd
 split at hd
 · simp only [Prod.mk.injEq] at hd;omega
 · split at hd
   · rename_i h1 h2
     simp only [Bool.and_eq_true,decide_eq_true_eq,beq_iff_eq] at h2
     split at hd
     · simp only [Prod.mk.injEq] at hd
       left;omega
     · simp only [Prod.mk.injEq] at hd;omega
   · split at hd
     · rename_i h1 h2 h3
       simp only [Bool.and_eq_true,decide_eq_true_eq,beq_iff_eq] at h3
       split at hd
       · rename_i h4
         simp only [Prod.mk.injEq] at hd
         simp only [Utf8.valid,Bool.and_eq_true,Bool.or_eq_true,decide_eq_true_eq] at h4
         right;left;omega
       · simp only [Prod.mk.injEq] at hd;omega
     · split at hd
       · rename_i h1 h2 h3 h5
         simp only [Bool.and_eq_true,decide_eq_true_eq,beq_iff_eq] at h5
         split at hd
         · rename_i h4
           simp only [Prod.mk.injEq] at hd
           simp only [Utf8.valid,Bool.and_eq_true,Bool.or_eq_true,decide_eq_true_eq] at h4
           right;right;omega
         · simp only [Prod.mk.injEq] at hd;omega
       · simp only [Prod.mk.injEq] at hd;omega
theorem Form.move {s t:ByteArray} {p r c n:Nat} (h:Form s p c n) (hr:r+n≤t.size) (he:∀ k,k<n→(t.get! (r+k)).toNat=(s.get! (p+k)).toNat):Form t r c n:=by
 obtain ⟨_,_,h⟩:=h
 have e0:=he 0
 have e1:=he 1
 have e2:=he 2
 have e3:=he 3
 simp only [Nat.add_zero] at e0
 rcases h with ⟨rfl,a,b,b0,b1⟩ | ⟨rfl,a,b,v,b0,b1,b2⟩ | ⟨rfl,a,b,b0,b1,b2,b3⟩
 · have c0:=(e0 (by omega)).trans b0
   have c1:=(e1 (by omega)).trans b1
   exact ⟨hr,dec2 t r c a b (by omega) c0 c1,.inl ⟨rfl,a,b,c0,c1⟩⟩
 · have c0:=(e0 (by omega)).trans b0
   have c1:=(e1 (by omega)).trans b1
   have c2:=(e2 (by omega)).trans b2
   exact ⟨hr,dec3 t r c a b v (by omega) c0 c1 c2,.inr (.inl ⟨rfl,a,b,v,c0,c1,c2⟩)⟩
 · have c0:=(e0 (by omega)).trans b0
   have c1:=(e1 (by omega)).trans b1
   have c2:=(e2 (by omega)).trans b2
   have c3:=(e3 (by omega)).trans b3
   exact ⟨hr,dec4 t r c a b (by omega) c0 c1 c2 c3,.inr (.inr ⟨rfl,a,b,c0,c1,c2,c3⟩)⟩
theorem Form.uw {s:ByteArray} {p c n:Nat} (h:Form s p c n):uw s p=n:=by unfold Go.Proofs.uw;rw [h.2.1]
def bord (s:ByteArray) (p:Nat):Prop:=∀ q,q<p→q+uw s q≤p
theorem bord_size (s:ByteArray):bord s s.size:=fun q h=>by
 by_cases h1:1<uw s q
 · exact (uw_many s q h1).1
 · omega
theorem get_ext (s:ByteArray) (f e r:Nat) (h:f+r<e) (he:e≤s.size):(s.extract f e).get! r=s.get! (f+r):=by
 have hz:(s.extract f e).size=e - f:=by simp [ByteArray.size_extract];omega
 rw [get_bang _ _ (by omega),get_bang _ _ (by omega)]
 simp [ByteArray.getElem_extract]
theorem one_wide (s:ByteArray) (p:Nat) (h:uw s p=1):((s.get! p).toNat<128∧Utf8.decode s p=((s.get! p).toNat,1))∨(128≤(s.get! p).toNat∧Utf8.decode s p=(65533,1)):=by
 by_cases hb:(s.get! p).toNat<128
 · exact .inl ⟨hb,dec1 s p hb⟩
 · refine .inr ⟨by omega,?_⟩
   obtain ⟨c,n,hd⟩:∃ c n,Utf8.decode s p=(c,n):=⟨_,_,rfl⟩
   have hn:n=1:=by rw [←h];unfold uw;rw [hd]
   subst hn
   have hc:c=65533:=by
    unfold Utf8.decode at hd
    simp only [Nat.add_zero] at hd
    rw [if_neg hb] at hd
    repeat' split at hd
    all_goals (simp only [Prod.mk.injEq,Utf8.runeError] at hd;omega)
   rw [hd,hc]
theorem prefix_bytes (s:ByteArray) (p:Nat) (h:Lib.hasPrefix (s.data.toList.drop p) fffd=true):Form s p 65533 3:=by
 unfold Lib.hasPrefix at h
 rw [List.isPrefixOf_iff_prefix] at h
 obtain ⟨t,ht⟩:=h
 have hl:(s.data.toList.drop p).length=3+t.length:=by rw [←ht];simp [fffd];omega
 rw [List.length_drop,←Lib.size_eq] at hl
 have hg:∀ k (hk:k<3),s.get! (p+k)=fffd.getD k 0:=fun k hk=>by
  rw [get_bang s _ (by omega)]
  have e:(s.data.toList.drop p)[k]? = fffd[k]? := by rw [←ht,List.getElem?_append_left (by simpa [fffd] using hk)]
  rw [List.getElem?_drop] at e
  have e2:s.data.toList[p+k]? = some s[p+k]:=by
   rw [List.getElem?_eq_getElem (by rw [←Lib.size_eq];omega)];rfl
  rw [e2] at e
  simp [List.getD,←e]
 have g0:=hg 0 (by omega)
 have g1:=hg 1 (by omega)
 have g2:=hg 2 (by omega)
 rw [Nat.add_zero] at g0
 have b0:(s.get! p).toNat=224+65533 / 4096:=by rw [g0];decide
 have b1:(s.get! (p+1)).toNat=128+65533 / 64 % 64:=by rw [g1];decide
 have b2:(s.get! (p+2)).toNat=128+65533 % 64:=by rw [g2];decide
 exact ⟨by omega,dec3 s p 65533 (by omega) (by omega) (by omega) (by omega) b0 b1 b2,.inr (.inl ⟨rfl,by omega,by omega,by omega,b0,b1,b2⟩)⟩
theorem bytes_prefix (s:ByteArray) (p:Nat) (h:Form s p 65533 3):Lib.hasPrefix (s.data.toList.drop p) fffd=true:=by
 obtain ⟨hz,_,h⟩:=h
 have hb:(s.get! p).toNat=239∧(s.get! (p+1)).toNat=191∧(s.get! (p+2)).toNat=189:=by omega
 unfold Lib.hasPrefix
 rw [List.isPrefixOf_iff_prefix]
 have e:∀ k (hk:p+k<s.size),s.data.toList[p+k]'(by rw [←Lib.size_eq];exact hk)=s.get! (p+k):=fun k hk=>by rw [get_bang s _ hk];rfl
 rw [List.drop_eq_getElem_cons (by rw [←Lib.size_eq];omega),List.drop_eq_getElem_cons (by rw [←Lib.size_eq];omega),List.drop_eq_getElem_cons (by rw [←Lib.size_eq];omega)]
 have e0:=e 0 (by omega)
 have e1:=e 1 (by omega)
 have e2:=e 2 (by omega)
 simp only [Nat.add_zero] at e0
 have u0:s.get! p=239:=UInt8.toNat_inj.1 hb.1
 have u1:s.get! (p+1)=191:=UInt8.toNat_inj.1 hb.2.1
 have u2:s.get! (p+2)=189:=UInt8.toNat_inj.1 hb.2.2
 rw [e0,u0]
 refine ⟨s.data.toList.drop (p+1+1+1),?_⟩
 simp only [fffd,List.cons_append,List.nil_append,List.cons.injEq,and_true,true_and]
 exact ⟨by rw [←u1];exact e1.symm,by rw [←u2];exact e2.symm⟩
theorem stray_iff (s:ByteArray) (p:Nat):strayAt s p=true↔Utf8.decode s p=(65533,1):=by
 unfold strayAt
 rw [Bool.and_eq_true,beq_iff_eq,Bool.not_eq_true']
 constructor
 · rintro ⟨h1,h2⟩
   by_cases h:1<uw s p
   · obtain ⟨c,F⟩:=form_of s p h
     have hd:=F.2.1
     rw [hd] at h1
     simp only at h1
     subst h1
     have h3:uw s p=3:=by have:=F.2.2;omega
     rw [h3] at F
     rw [bytes_prefix s p F] at h2
     cases h2
   · have:=uw_pos s p
     have hu:uw s p=1:=by omega
     rcases one_wide s p hu with ⟨a,b⟩ | ⟨a,b⟩
     · rw [b] at h1;simp only at h1;omega
     · exact b
 · intro h
   refine ⟨by rw [h],?_⟩
   cases hp:Lib.hasPrefix (s.data.toList.drop p) fffd with
   | false=>rfl
   | true=>
    have:=(prefix_bytes s p hp).2.1
    rw [h] at this
    simp at this
theorem wd_uAt (s:ByteArray) (p:Nat):wd (uAt s p)=uw s p:=by
 by_cases h:1<uw s p
 · obtain ⟨c,F⟩:=form_of s p h
   have hns:strayAt s p=false:=by
    cases hs:strayAt s p with
    | false=>rfl
    | true=>have:=(stray_iff s p).1 hs;rw [F.2.1] at this;simp at this;omega
   rw [uAt_rune hns,F.2.1]
   have:=F.2.2
   unfold wd Lib.runeLen
   repeat' split
   all_goals omega
 · have hpos:=uw_pos s p
   have hu:uw s p=1:=by omega
   rcases one_wide s p hu with ⟨a,b⟩ | ⟨a,b⟩
   · have hns:strayAt s p=false:=by
      cases hs:strayAt s p with
      | false=>rfl
      | true=>have:=(stray_iff s p).1 hs;rw [b] at this;simp at this;omega
     rw [uAt_rune hns,b,hu]
     unfold wd Lib.runeLen
     repeat' split
     all_goals omega
   · have hlt:=(s.get! p).toNat_lt
     rw [uAt_stray ((stray_iff s p).2 b),hu,wd_stray (by omega)]
     rfl
end Go.Proofs
namespace Go.Proofs
open Go.RowKit Go.Shelf
set_option maxRecDepth 100000
theorem same_at {s t:ByteArray} {p r:Nat} (h:∀ k,p+k<s.size→r+k<t.size→t.get! (r+k)=s.get! (p+k)) (hp0:p<s.size) (hr0:r<t.size) (hr:r+uw s p≤t.size) (hp:p+uw t r≤s.size):uw t r=uw s p∧uAt t r=uAt s p:=by
 have hb:t.get! r=s.get! p:=h 0 (by omega) (by omega)
 have hd:Utf8.decode t r=Utf8.decode s p:=by
  by_cases h1:1<uw s p
  · obtain ⟨c,F⟩:=form_of s p h1
    have F2:=F.move hr (fun k hk=>by rw [h k (by have:=F.1;omega) (by omega)])
    rw [F2.2.1,F.2.1]
  · by_cases h2:1<uw t r
    · obtain ⟨c,F⟩:=form_of t r h2
      have F2:=F.move (t:=s) (r:=p) hp (fun k hk=>by rw [h k (by omega) (by have:=F.1;omega)])
      rw [F2.uw] at h1
      omega
    · have a1:=uw_pos s p
      have a2:=uw_pos t r
      rcases one_wide s p (by omega) with ⟨x1,y1⟩ | ⟨x1,y1⟩ <;> rcases one_wide t r (by omega) with ⟨x2,y2⟩ | ⟨x2,y2⟩
      · rw [y1,y2,hb]
      · rw [hb] at x2;omega
      · rw [hb] at x2;omega
      · rw [y1,y2]
 refine ⟨by unfold uw;rw [hd],?_⟩
 have hs:strayAt t r=strayAt s p:=by rw [Bool.eq_iff_iff,stray_iff,stray_iff,hd]
 unfold uAt
 rw [hs,hd,hb]
theorem uw_in (s:ByteArray) (q:Nat) (h:q<s.size):q+uw s q≤s.size:=bord_size s q h
end Go.Proofs
namespace Go.Proofs
open Go.RowKit Go.Shelf
set_option maxRecDepth 100000
attribute [local go_sem] Oper.semAt_some
theorem past_take:∀ (b:Bool) (M:List UInt8),pastN b (M.take (pastN b M))=pastN b M
 | b,[]=>by cases b <;> simp [pastN]
 | true,c::M=>by
  have ih:=past_take (c.toNat != 10) M
  simp only [pastN]
  rw [Nat.add_comm,List.take_succ_cons,pastN,ih,Nat.add_comm]
 | false,c::M=>by
  have ih1:=past_take false M
  have ih2:=past_take true M
  simp only [pastN]
  split
  · rename_i h;rw [Nat.add_comm,List.take_succ_cons,pastN,if_pos h,ih1,Nat.add_comm]
  · rename_i h
    split
    · rename_i h2;rw [Nat.add_comm,List.take_succ_cons,pastN,if_neg h,if_pos h2,ih2,Nat.add_comm]
    · simp [pastN]
theorem past_drop:∀ (b:Bool) (M:List UInt8),pastN false (M.drop (pastN b M))=0
 | b,[]=>by cases b <;> simp [pastN]
 | true,c::M=>by
  have ih:=past_drop (c.toNat != 10) M
  simp only [pastN]
  rw [Nat.add_comm,List.drop_succ_cons]
  exact ih
 | false,c::M=>by
  have ih1:=past_drop false M
  have ih2:=past_drop true M
  simp only [pastN]
  split
  · rw [Nat.add_comm,List.drop_succ_cons];exact ih1
  · rename_i h
    split
    · rw [Nat.add_comm,List.drop_succ_cons];exact ih2
    · rename_i h2;rw [List.drop_zero];exact pastN_stop (by simpa using h) h2 M
theorem ext0_size (r:ByteArray) {l:Nat} (h:l≤r.size):(r.extract 0 l).size=l:=by rw [ByteArray.size_extract];omega
theorem idx_sgn (c:UInt8):Lib.indexByte sgnL c = -1∨∃ i:Nat,Lib.indexByte sgnL c=(i:Int):=by
 have:=(sgn_bound c).2
 by_cases h:Lib.indexByte sgnL c = -1
 · exact .inl h
 · exact .inr ⟨(Lib.indexByte sgnL c).toNat,by omega⟩
end Go.Proofs
namespace Go.Proofs
open Go.RowKit Go.Shelf
set_option maxRecDepth 100000
attribute [local go_sem] Oper.semAt_some
theorem empty_iff (r:ByteArray):r.toList.isEmpty=true↔r.size=0:=by
 rw [Lib.toList_data,List.isEmpty_iff]
 constructor
 · intro e
   show r.data.size=0
   rw [←Array.length_toList,e];rfl
 · intro e
   have:r.data.toList.length=0:=by rw [Array.length_toList];exact e
   exact List.eq_nil_of_length_eq_zero this
theorem empty_no {r:ByteArray} (h:0<r.size):r.toList.isEmpty=false:=by
 cases hc:r.toList.isEmpty
 · rfl
 · have:=(empty_iff r).1 hc;omega
theorem pre_two {l:List UInt8} {a b:UInt8} (h:Lib.hasPrefix l [a,b]=true):l.take 2=[a,b]:=by
 rw [←Lib.hasPrefix_of_take] at h
 simp only [Bool.and_eq_true,beq_iff_eq] at h
 exact h.2
theorem two_pre {l:List UInt8} {a b:UInt8} (h:l.take 2=[a,b]):Lib.hasPrefix l [a,b]=true:=by
 rw [←Lib.hasPrefix_of_take]
 have:2≤l.length:=by
  have:=congrArg List.length h
  rw [List.length_take] at this
  simp at this
  omega
 simp [this,h]
end Go.Proofs
namespace Go.Proofs
open Go.RowKit Go.Shelf
set_option maxRecDepth 100000
attribute [local go_sem] Oper.semAt_some
end Go.Proofs
namespace Go.Proofs
open Go.RowKit Go.Shelf
set_option maxRecDepth 100000
attribute [local go_sem] Oper.semAt_some
inductive Run (s:ByteArray):Nat→Bool→List Tok→Nat→Int→Prop
 | fin {p:Nat} {fresh:Bool} (h:p+pastN false (s.data.toList.drop p)=s.size):Run s p fresh [] 0 0
 | bad {p:Nat} {fresh:Bool} {q:Nat} {e0:Int} (hq:q=p+pastN false (s.data.toList.drop p)) (hlt:q<s.size) (hb:Tells 47 #[.string (s.extract q s.size),.bool fresh] 0 0 0 0 ⟨#[]⟩ 0 e0) (he:e0≠0):Run s p fresh [] q e0
 | step {p:Nat} {fresh:Bool} {q:Nat} {k u:Int} {l:Nat} {t:ByteArray} {n:Int} {toks:List Tok} {fa:Nat} {fe:Int} (hq:q=p+pastN false (s.data.toList.drop p)) (hlt:q<s.size) (hb:Tells 47 #[.string (s.extract q s.size),.bool fresh] k 0 l u t n 0) (h0:0<l) (hl:q+l≤s.size) (hr:Run s (q+l) (decide (k=11)) toks fa fe):Run s p fresh (⟨k,q,l,u,t,n⟩::toks) fa fe
end Go.Proofs
namespace Go.Proofs
open Go.RowKit Go.Shelf
set_option maxRecDepth 100000
attribute [local go_sem] Oper.semAt_some
def SJ (s:ByteArray) (toks:List Tok) (fa:Nat) (fe:Int) (w:World) (a':Act) (W:World):Prop:=
 ∃ (p:Nat) (fr:Bool) (pre rest:List Tok) (A:Option Addr) (c:Nat) (u7 u8 u9 u10 u11 u12 u13 u14 u15 u16 u17 u18 u19 u20 u21 u22 u23 u24 u25 u26 u27 u28 u29 u30 u31 u32 u33 u34 u35 u36 u37 u38 u39 u40 u41 u42 u43 u44 u45 u46 u47:Value),a' = { tmps:=#[.string s,undef,.slice none 0 0,.pointer (some ⟨w.heap.size,0,none⟩),.slice A pre.length c,.int .i64 p,.bool fr,u7,u8,u9,u10,u11,u12,u13,u14,u15,u16,u17,u18,u19,u20,u21,u22,u23,u24,u25,u26,u27,u28,u29,u30,u31,u32,u33,u34,u35,u36,u37,u38,u39,u40,u41,u42,u43,u44,u45,u46,u47],defers:=[] } ∧ p≤s.size∧pre.length≤p∧Hid (Run s p fr rest fa fe)∧Hid (toks=pre++rest)∧Hid (OwnT W (w.heap.size+1) (.slice A pre.length c) pre)∧Hid (FB W w.heap.size 0 0)∧Hid (Below w.heap.size w W)
theorem jump_mono {l:Nat} {J J':Act→World→Prop} {Q:Exit→Act→World→Prop} (h:∀ a w,J a w→J' a w):∀ e a w,Exit.jump l J Q e a w→Exit.jump l J' Q e a w:=by
 intro e a w he
 cases e with
 | goto l'=>exact ⟨he.1,h _ _ he.2⟩
 | normal=>exact he
 | exit id=>exact he
 | ret=>exact he
 | panic ch=>exact he
 | outgrown=>exact he
theorem wp_scope_jumps2 {P:Program} {a:Act} {w:World} {Q:Exit→Act→World→Prop} {c rest:Code} (l:Nat) (J:Act→World→Prop) (μ:Act→World→Nat) (hf:findLabel c l=some (Code.skip.seq rest))
 (pass:∀ a w,J a w→rest.wp P (Exit.jump l (fun a' w'=>J a' w'∧μ a' w'<μ a w) Q) a w)
 (first:Hid (∀ a w,J a w→rest.wp P (Exit.jump l J Q) a w)→c.wp P (Exit.jump l J Q) a w):(Code.scope c).wp P Q a w:=
 wp_scope_jumps l J μ hf (first (fun a w h=>wp_mono (pass a w h) (jump_mono fun _ _ k=>k.1))) (fun a w h=>wp_seq (wp_skip (pass a w h)))
set_option maxHeartbeats 1000000 in
theorem scan_run (s:ByteArray) (toks:List Tok) (fa:Nat) (fe:Int) (hs:s.size≤32768) (hR:Run s 0 true toks fa fe) (w:World) :
 Calls Tryz.prog 23 #[.string s] w fun e w'=>∃ v,e = .returned (.tuple #[v,.agg #[.int .i64 fa,.int .i64 fe]])∧(if fe=0 then OwnT w' w.heap.size v toks else v = .slice none 0 0)∧Below w.heap.size w w':=by
 have hd:decide ((32768:Int)<(s.size:Int))=false:=by simp;omega
 have HR:Hid (Run s 0 true toks fa fe):=hR
 clear hR
 go_enter Tryz.func23,Tryz.ntmps23
 go_wp2
 refine wp_scope_jumps2 0 (SJ s toks fa fe w) (fun a' _=>s.size - (intOf (a'.tmps.getD 5 undef)).toNat) rfl ?_ ?_
 · rintro a' w' ⟨p,fr,pre,rest,A,c,u7,u8,u9,u10,u11,u12,u13,u14,u15,u16,u17,u18,u19,u20,u21,u22,u23,u24,u25,u26,u27,u28,u29,u30,u31,u32,u33,u34,u35,u36,u37,u38,u39,u40,u41,u42,u43,u44,u45,u46,u47,rfl,hp,hpl,HRun,HTk,HO,HF,HB⟩
   clear HR
   go_wp2_with fail
   refine (past_any s p _ (by unfold maxLen;omega) hp).mono ?_
   rintro e w'' ⟨rfl,rfl⟩
   have hrun:=HRun.out
   have hqle:p+pastN false (s.data.toList.drop p)≤s.size:=by
    have:=pastN_le false (s.data.toList.drop p)
    simp at this
    omega
   obtain ⟨c0,c1,f0,f1⟩:=HF.out.cells
   clear HRun
   cases hrun with
   | fin h=>
    rw [h]
    clear h hqle
    go_wp2
    simp only [Exit.jump]
    have HF2:=HF.out.set 0 0
    obtain ⟨d0,d1,_,_⟩:=HF2.cells
    refine bodyPost_ret (v := .tuple #[.slice A pre.length c,.agg #[.int .i64 0,.int .i64 0]]) (by simp [results,Tryz.f23,go_sem,d0,d1]) rfl ⟨_,rfl,?_,?_⟩
    · rw [if_pos rfl,HTk.out,List.append_nil]
      exact ((HO.out.kept (grown_setB _ _ _ _) (ownT_apart HO.out)).kept (grown_setB _ _ _ _) (ownT_apart HO.out)).le (Nat.le_succ _)
    · exact (HB.out.setCell (p:=⟨w.heap.size,0,none⟩) (Nat.le_refl _) _).setCell (p:=⟨w.heap.size,1,none⟩) (Nat.le_refl _) _
   | bad hq hlt hb he=>
    rw [←hq]
    have HV:Hid (Tells 47 #[.string (s.extract fa s.size),.bool fr] 0 0 0 0 ⟨#[]⟩ 0 fe):=hb
    have hlt':(fa:Int)<(s.size:Int):=by omega
    clear hqle hq hb
    have hne:((fa:Int) == (s.size:Int))=false:=by simp;omega
    go_wp2_with fail
    refine (HV.out _).mono ?_
    rintro e w2 ⟨rfl,hb2⟩
    have HF2:=HF.out.below hb2 HF.out.lt
    have c0:=fun o=>(HF2.allocs o).cells.1
    have c1:=fun o=>(HF2.allocs o).cells.2.1
    have f0:=fun o=>(HF2.allocs o).cells.2.2.1
    have f1:=fun o=>(HF2.allocs o).cells.2.2.2
    have HB2:=HB.out.trans (hb2.mono HB.out.size)
    have hen:(fe != 0)=true:=by simpa using he
    have hee:(fe == 0)=false:=by simpa using he
    clear hb2
    go_wp2
    simp only [Exit.jump]
    have HF3:=(HF2.allocs (.cells #[.int .i64 0,.int .i64 0,.int .i64 0,.int .i64 0,.string ⟨#[]⟩,.int .i64 0] 52)).set fa fe
    obtain ⟨d0,d1,_,_⟩:=HF3.cells
    refine bodyPost_ret (v := .tuple #[.slice none 0 0,.agg #[.int .i64 fa,.int .i64 fe]]) (by simp [results,Tryz.f23,go_sem,d0,d1]) rfl ⟨_,rfl,by rw [if_neg he],?_⟩
    exact ((HB2.alloc HB2.size _).setCell (p:=⟨w.heap.size,0,none⟩) (Nat.le_refl _) _).setCell (p:=⟨w.heap.size,1,none⟩) (Nat.le_refl _) _
   | @step _ _ q k u l t n toks2 _ _ hq hlt hb h0 hl hr=>
    rw [←hq]
    have HV:Hid (Tells 47 #[.string (s.extract q s.size),.bool fr] k 0 l u t n 0):=hb
    have HR2:Hid (Run s (q+l) (decide (k=11)) toks2 fa fe):=hr
    have hqp:p≤q:=by omega
    have hlt':(q:Int)<(s.size:Int):=by omega
    have hne:((q:Int) == (s.size:Int))=false:=by simp;omega
    clear hqle hq hb hr
    go_wp2_with fail
    refine (HV.out _).mono ?_
    rintro e w2 ⟨rfl,hb2⟩
    have HF2:=HF.out.below hb2 HF.out.lt
    have HB2:=HB.out.trans (hb2.mono HB.out.size)
    have HO2:=HO.out.below hb2 (Nat.le_refl _)
    clear hb2 HO HF HB
    have hY:TB ((w2.alloc (.cells #[.int .i64 k,.int .i64 q,.int .i64 l,.int .i64 u,.string t,.int .i64 n] 52)).alloc (.cells #[.int .i64 k,.int .i64 q,.int .i64 l,.int .i64 u,.string t,.int .i64 n] 52)) (w2.heap.size+1) k q l u t n:=by
     have:=TB.new (w2.alloc (.cells #[.int .i64 k,.int .i64 q,.int .i64 l,.int .i64 u,.string t,.int .i64 n] 52)) k q l u t n
     rwa [World.size_alloc] at this
    have hX:TB ((w2.alloc (.cells #[.int .i64 k,.int .i64 q,.int .i64 l,.int .i64 u,.string t,.int .i64 n] 52)).alloc (.cells #[.int .i64 k,.int .i64 q,.int .i64 l,.int .i64 u,.string t,.int .i64 n] 52)) w2.heap.size k q l u t n:=(Below.heap_alloc _ _ _ (by simp)).trans (TB.new w2 k q l u t n)
    have hz2:w.heap.size+1≤w2.heap.size:=HF2.lt
    have HOL:Hid (∀ j,(Value.slice A pre.length c).ownBlock=some j→j<w2.heap.size∧w.heap.size+1≤j):=fun j hj=>⟨(World.ownsRow.lt HO2 j hj).2,(World.ownsRow.lt HO2 j hj).1⟩
    have HH:Hid (TB ((w2.alloc (.cells #[.int .i64 k,.int .i64 q,.int .i64 l,.int .i64 u,.string t,.int .i64 n] 52)).alloc (.cells #[.int .i64 k,.int .i64 q,.int .i64 l,.int .i64 u,.string t,.int .i64 n] 52)) w2.heap.size k q l u t n∧TB ((w2.alloc (.cells #[.int .i64 k,.int .i64 q,.int .i64 l,.int .i64 u,.string t,.int .i64 n] 52)).alloc (.cells #[.int .i64 k,.int .i64 q,.int .i64 l,.int .i64 u,.string t,.int .i64 n] 52)) (w2.heap.size+1) k q l u t n∧FB w2 w.heap.size 0 0∧Below w.heap.size w w2∧OwnT w2 (w.heap.size+1) (.slice A pre.length c) pre):=⟨hX,hY,HF2,HB2,HO2⟩
    clear hX hY HF2 HB2 HO2
    have hlb:(l:Int)≤32768:=by omega
    have hlq:(q:Int)≤32768:=by omega
    have hl0:(0:Int)≤l:=by omega
    go_wp2_with (at_builtin;go_must (refine push_T rfl _ _ 47 rfl Tryz.underlying47 (w.heap.size+1) _ pre rfl ((HH.out.2.2.2.2.alloc _).alloc _) _ _ ⟨k,q,l,u,t,n⟩ rfl HH.out.2.1 (by omega) (by simp;omega) ?_);intro v' w3 hO1 hgr hb1;obtain ⟨A3,c3,rfl⟩:=formT hO1;rw [show (pre++[(⟨k,q,l,u,t,n⟩:Tok)]).length=pre.length+1 by simp] at hO1 ⊢;have hX3:TB w3 w2.heap.size k q l u t n:=(hgr.block w2.heap.size (by simp;omega) (fun e=>by have:=(HOL.out _ e.symm).1;omega)).trans HH.out.1;obtain ⟨x0,x1,x2,x3,x4,x5⟩:=hX3.cells)
    go_step3
    rw [show (q:Int)+(l:Int)=((q+l:Nat):Int) by simp,show pre.length+1=(pre++[(⟨k,q,l,u,t,n⟩:Tok)]).length by simp]
    refine ⟨rfl,⟨q+l,decide (k=11),pre++[⟨k,q,l,u,t,n⟩],toks2,A3,c3,_,_,_,_,_,_,_,_,_,_,_,_,_,_,_,_,_,_,_,_,_,_,_,_,_,_,_,_,_,_,_,_,_,_,_,_,_,_,_,_,_,rfl,hl,by simp;omega,HR2,by show _=_;rw [HTk.out];simp,by rw [List.length_append];exact hO1,?_,?_⟩,?_⟩
    · exact (hgr.block w.heap.size (by simp;omega) (fun e=>by have:=(HOL.out _ e.symm).2;omega)).trans ((Below.heap_alloc _ _ _ (by simp;omega)).trans ((Below.heap_alloc _ _ _ (by omega)).trans HH.out.2.2.1))
    · exact ((HH.out.2.2.2.1.alloc HH.out.2.2.2.1.size _).alloc (by have:=HH.out.2.2.2.1.size;simp;omega) _).trans (hb1.mono (Nat.le_succ _))
    · simp [intOf]
      omega
 · intro HP
   go_wp2
   go_step3
   rename_i hK
   refine hK _ _ (HP.out _ _ ?_)
   exact ⟨0,true,[],toks,none,0,_,_,_,_,_,_,_,_,_,_,_,_,_,_,_,_,_,_,_,_,_,_,_,_,_,_,_,_,_,_,_,_,_,_,_,_,_,_,_,_,_,rfl,by omega,by simp,HR,rfl,OwnT.nil _ _,FB.new _ _ _,(Below.refl _ _).alloc (Nat.le_refl _) _⟩
end Go.Proofs
