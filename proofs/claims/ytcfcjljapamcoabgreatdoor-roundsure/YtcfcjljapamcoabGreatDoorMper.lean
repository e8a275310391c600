/-
  Several texts in one (Mar Mgcr).
-/
import Derived.Test.YtcfcjljapamcoabGreatDoorMpcr
import Derived.RangeFuncNested
import Derived.RangeFuncBound
import Derived.RangeFuncCalls
import Derived.RangeFuncLeaves
import Derived.Shelf.Abstract
import Derived.Shelf.RegionOpen
import Derived.WalkKit
import Derived.WalkSpells
import Derived.WalkLawsBesides
import Derived.OwnWalkIn
import Derived.TacticsInMore
import Derived.LoopNIn
import Derived.LoopIn
import Derived.BigQuiet
import Derived.RegionIn
import Derived.Deep.QuietTactic
import Derived.Deep.RegionWith
import Derived.Lib.OthersKept
import Derived.Maps.AppendAt
import Derived.Lib.SmallJoins
import Derived.Shelf.SlSortCmp.QuietGrown
import Derived.ArgAppend
import Derived.Below
import Derived.Deep.LoopGhost
import Derived.Laws.CopyOwn
import Derived.Laws.MakeOwn
import Derived.Lib.AppendStr
import Derived.Lib.ConvBytes
import Derived.Lib.IndexBytes
import Derived.Lib.ParseIntB
import Derived.RangeFuncBox
import Derived.WalkMore
import Derived.Shelf.Small.Utf8
import Derived.Test.YtcfcjljapamcoabGreatDoorMpbr
import Derived.Test.YtcfcjljapamcoabGreatDoorMpar
import Derived.Test.YtcfcjljapamcoabGreatDoorMgbr
namespace Go.Proofs
open Go.RowKit Go.Shelf
theorem hasU_cons (x:Int × Int) (l:List (Int × Int)) (u:Int):hasU (x::l) u↔(x.1≤u∧u≤x.2)∨hasU l u:=by
 unfold hasU
 simp only [List.mem_cons]
 constructor
 · rintro ⟨y,rfl | hy,h⟩
   · exact .inl h
   · exact .inr ⟨y,hy,h⟩
 · rintro (h | ⟨y,hy,h⟩)
   · exact ⟨x,.inl rfl,h⟩
   · exact ⟨y,.inr hy,h⟩
theorem nth_at:∀ (l:List (Int × Int)) (k:Nat) (i:Int),(∀ x∈l,Whole x)→k<l.length→0≤i→i<(rg l k).2 - (rg l k).1+1→nthL l (tot (l.take k)+i)=some ((rg l k).1+i)
 | [],k,i,_,hk,_,_=>by simp at hk
 | x::l,0,i,_,_,h0,h1=>by
  have e:rg (x::l) 0=x:=rfl
  rw [e] at h1 ⊢
  simp only [List.take_zero,tot_nil,nthL,Int.zero_add]
  rw [if_pos h1]
 | x::l,k+1,i,hw,hk,h0,h1=>by
  have e:rg (x::l) (k+1)=rg l k:=by simp [rg]
  rw [e] at h1 ⊢
  have ih:=nth_at l k i (fun y hy=>hw y (by simp [hy])) (by simpa using hk) h0 h1
  have hb:=(tot_bound (l:=l.take k) (fun y hy=>hw y (by simp [List.mem_of_mem_take hy]))).1
  rw [List.take_succ_cons,tot_cons,nthL,if_neg (by omega),show x.2 - x.1+1+tot (l.take k)+i - (x.2 - x.1+1)=tot (l.take k)+i by omega]
  exact ih
theorem nth_place {l:List (Int × Int)} (h:Good l) {u:Int} (hu:hasU l u):nthL l (placeU l u)=some u∧0≤placeU l u:=by
 have hlt:fnd l u<l.length:=by
  have h1:=fnd_le l u
  by_cases e:fnd l u=l.length
  · exact absurd hu (hasU_end h e)
  · omega
 have h1:=(hasU_in h hlt).1 hu
 have h2:¬ (rg l (fnd l u)).2<u:=fun e=>by have:=(fnd_lt h u hlt).2 e;omega
 have h3:=nth_at l (fnd l u) (u - (rg l (fnd l u)).1) h.1 hlt (by omega) (by omega)
 have h4:=(tot_bound (l:=l.take (fnd l u)) (fun y hy=>h.1 y (List.mem_of_mem_take hy))).1
 unfold placeU
 rw [show tot (l.take (fnd l u))+u - (rg l (fnd l u)).1=tot (l.take (fnd l u))+(u - (rg l (fnd l u)).1) by omega,h3]
 exact ⟨by rw [show (rg l (fnd l u)).1+(u - (rg l (fnd l u)).1)=u by omega],by omega⟩
end Go.Proofs
namespace Go.Proofs
open Go.RowKit Go.Shelf
set_option maxRecDepth 100000
attribute [local go_sem] Oper.semAt_some
attribute [local go_sem ↓] Go.wp_at_zero Go.wp_at_succ
def put (u:Int):ByteArray:=if 1114240≤u∧u≤1114367 then ⟨#[UInt8.ofNat (u - 1114112).toNat]⟩ else if (0≤u∧u<55296)∨(57343<u∧u≤1114111) then Utf8.encode u else ByteArray.empty
theorem put_stray {u:Int} (h:1114240≤u∧u≤1114367):put u=⟨#[UInt8.ofNat (u - 1114112).toNat]⟩:=by unfold put;rw [if_pos h]
theorem put_rune {u:Int} (h:(0≤u∧u<55296)∨(57343<u∧u≤1114111)):put u=Utf8.encode u:=by unfold put;rw [if_neg (by omega),if_pos h]
theorem put_no {u:Int} (h1:u<1114240∨1114367<u) (h:u<0∨1114111<u∨(55296≤u∧u≤57343)):put u=ByteArray.empty:=by unfold put;rw [if_neg (by omega),if_neg (by omega)]
theorem info_parts {α:Type} {i:Option α} {β γ δ:Type} {f:α→β} {g:α→γ} {h:α→δ} {b:β} {c:γ} {d:δ} (e:i.map (fun x=>(f x,g x,h x))=some (b,c,d)):∃ x,i=some x∧f x=b∧g x=c∧h x=d:=by
 cases i with
 | none=>cases e
 | some x=>simp at e;exact ⟨x,rfl,e.1,e.2.1,e.2.2⟩
theorem dec1 (s:ByteArray) (p:Nat) (h:(s.get! p).toNat<128):Utf8.decode s p=((s.get! p).toNat,1):=by
 unfold Utf8.decode
 simp only [Nat.add_zero]
 rw [if_pos (by omega)]
theorem dec3 (s:ByteArray) (p c:Nat) (h0:2048≤c) (h1:c<65536) (hv:c<55296∨57344≤c) (hs:p+2<s.size) (b0:(s.get! p).toNat=224+c / 4096) (b1:(s.get! (p+1)).toNat=128+c / 64 % 64) (b2:(s.get! (p+2)).toNat=128+c % 64):Utf8.decode s p=(c,3):=by
 have hs1:p+1<s.size:=by omega
 unfold Utf8.decode
 simp only [Nat.add_zero,b0,b1,b2]
 rw [if_neg (by omega),if_neg (by simp;omega),if_pos (by simp [hs,hs1];omega)]
 have e:(224+c / 4096) % 16*4096+(128+c / 64 % 64) % 64*64+(128+c % 64) % 64=c:=by omega
 rw [e,if_pos (by simp [Utf8.valid];omega)]
theorem size_lit (l:List UInt8):(⟨l.toArray⟩:ByteArray).size=l.length:=by simp [ByteArray.size]
theorem b8 (n:Nat) (h:n<256):(UInt8.ofNat n).toNat=n:=by rw [UInt8.toNat_ofNat'];omega
theorem enc1 (c:Nat) (h:c<128):Utf8.encode (c:Int)=⟨[UInt8.ofNat c].toArray⟩:=by
 unfold Utf8.encode
 have hv:Utf8.valid (c:Int)=true:=by simp [Utf8.valid];omega
 simp only [hv,if_true,Int.toNat_natCast]
 rw [if_pos (by omega)]
theorem enc2 (c:Nat) (h0:128≤c) (h:c<2048):Utf8.encode (c:Int)=⟨[UInt8.ofNat (192+c / 64),UInt8.ofNat (128+c % 64)].toArray⟩:=by
 unfold Utf8.encode
 have hv:Utf8.valid (c:Int)=true:=by simp [Utf8.valid];omega
 simp only [hv,if_true,Int.toNat_natCast]
 rw [if_neg (by omega),if_pos (by omega)]
theorem enc3 (c:Nat) (h0:2048≤c) (h:c<65536) (hv:c<55296∨57344≤c):Utf8.encode (c:Int)=⟨[UInt8.ofNat (224+c / 4096),UInt8.ofNat (128+c / 64 % 64),UInt8.ofNat (128+c % 64)].toArray⟩:=by
 unfold Utf8.encode
 have hv:Utf8.valid (c:Int)=true:=by simp [Utf8.valid];omega
 simp only [hv,if_true,Int.toNat_natCast]
 rw [if_neg (by omega),if_neg (by omega),if_pos (by omega)]
theorem enc4 (c:Nat) (h0:65536≤c) (h:c<1114112):Utf8.encode (c:Int)=⟨[UInt8.ofNat (240+c / 262144),UInt8.ofNat (128+c / 4096 % 64),UInt8.ofNat (128+c / 64 % 64),UInt8.ofNat (128+c % 64)].toArray⟩:=by
 unfold Utf8.encode
 have hv:Utf8.valid (c:Int)=true:=by simp [Utf8.valid];omega
 simp only [hv,if_true,Int.toNat_natCast]
 rw [if_neg (by omega),if_neg (by omega),if_neg (by omega)]
theorem uw_many (s:ByteArray) (p:Nat) (h:1<uw s p):p+uw s p≤s.size∧(s.get! p).toNat / 64=3∧∀ k,1≤k→k<uw s p→(s.get! (p+k)).toNat / 64=2:=by
 have h0:=(s.get! p).toNat_lt
 unfold uw Utf8.decode at *
 simp only [Nat.add_zero] at *
 split at h
 · simp at h
 · split at h
   · rename_i h1 h2
     simp only [Bool.and_eq_true,decide_eq_true_eq,beq_iff_eq] at h2
     split at h
     · rename_i h3
       rw [if_neg h1,if_pos (by simpa using h2),if_pos h3]
       refine ⟨by simp only;omega,by omega,fun k hk1 hk2 => ?_⟩
       simp only at hk2
       obtain rfl:k=1:=by omega
       omega
     · simp at h
   · split at h
     · rename_i h1 h2 h3
       split at h
       · rename_i h4
         rw [if_neg h1,if_neg h2,if_pos h3,if_pos h4]
         simp only [Bool.and_eq_true,decide_eq_true_eq,beq_iff_eq] at h3
         refine ⟨by simp only;omega,by omega,fun k hk1 hk2 => ?_⟩
         simp only at hk2
         have:k=1∨k=2:=by omega
         rcases this with rfl | rfl <;> omega
       · simp at h
     · split at h
       · rename_i h1 h2 h3 h5
         split at h
         · rename_i h4
           rw [if_neg h1,if_neg h2,if_neg h3,if_pos h5,if_pos h4]
           simp only [Bool.and_eq_true,decide_eq_true_eq,beq_iff_eq] at h5
           refine ⟨by simp only;omega,by omega,fun k hk1 hk2 => ?_⟩
           simp only at hk2
           have:k=1∨k=2∨k=3:=by omega
           rcases this with rfl | rfl | rfl <;> omega
         · simp at h
       · simp at h
def Form (s:ByteArray) (p c n:Nat):Prop:=p+n≤s.size∧Utf8.decode s p=(c,n) ∧
 ((n=2∧128≤c∧c<2048∧(s.get! p).toNat=192+c / 64∧(s.get! (p+1)).toNat=128+c % 64) ∨
  (n=3∧2048≤c∧c<65536∧(c<55296∨57344≤c)∧(s.get! p).toNat=224+c / 4096∧(s.get! (p+1)).toNat=128+c / 64 % 64∧(s.get! (p+2)).toNat=128+c % 64) ∨
  (n=4∧65536≤c∧c<1114112∧(s.get! p).toNat=240+c / 262144∧(s.get! (p+1)).toNat=128+c / 4096 % 64∧(s.get! (p+2)).toNat=128+c / 64 % 64∧(s.get! (p+3)).toNat=128+c % 64))
theorem form_of (s:ByteArray) (p:Nat) (h:1<uw s p):∃ c,Form s p c (uw s p):=by
 have h0:=(s.get! p).toNat_lt
 have h1':=(s.get! (p+1)).toNat_lt
 have h2':=(s.get! (p+2)).toNat_lt
 have h3':=(s.get! (p+3)).toNat_lt
 have hle:=(uw_many s p h).1
 obtain ⟨c,n,hd⟩:∃ c n,Utf8.decode s p=(c,n):=⟨_,_,rfl⟩
 have hn:uw s p=n:=by unfold uw;rw [hd]
 rw [hn] at h hle ⊢
 refine ⟨c,hle,hd,?_⟩
 unfold Utf8.decode at hd
 simp only [Nat.add_zero] at hd
 split at hd
 · simp only [Prod.mk.injEq] at hd;omega
 · split at hd
   · rename_i h1 h2
     simp only [Bool.and_eq_true,decide_eq_true_eq,beq_iff_eq] at h2
     split at hd
     · simp only [Prod.mk.injEq] at hd
       left;omega
     · simp only [Prod.mk.injEq] at hd;omega
   · split at hd
     · rename_i h1 h2 h3
       simp only [Bool.and_eq_true,decide_eq_true_eq,beq_iff_eq] at h3
       split at hd
       · rename_i h4
         simp only [Prod.mk.injEq] at hd
         simp only [Utf8.valid,Bool.and_eq_true,Bool.or_eq_true,decide_eq_true_eq] at h4
         right;left;omega
       · simp only [Prod.mk.injEq] at hd;omega
     · split at hd
       · rename_i h1 h2 h3 h5
         simp only [Bool.and_eq_true,decide_eq_true_eq,beq_iff_eq] at h5
         split at hd
         · rename_i h4
           simp only [Prod.mk.injEq] at hd
           simp only [Utf8.valid,Bool.and_eq_true,Bool.or_eq_true,decide_eq_true_eq] at h4
           right;right;omega
         · simp only [Prod.mk.injEq] at hd;omega
       · simp only [Prod.mk.injEq] at hd;omega
theorem get_ext (s:ByteArray) (f e r:Nat) (h:f+r<e) (he:e≤s.size):(s.extract f e).get! r=s.get! (f+r):=by
 have hz:(s.extract f e).size=e - f:=by simp [ByteArray.size_extract];omega
 rw [get_bang _ _ (by omega),get_bang _ _ (by omega)]
 simp [ByteArray.getElem_extract]
theorem one_wide (s:ByteArray) (p:Nat) (h:uw s p=1):((s.get! p).toNat<128∧Utf8.decode s p=((s.get! p).toNat,1))∨(128≤(s.get! p).toNat∧Utf8.decode s p=(65533,1)):=by
 by_cases hb:(s.get! p).toNat<128
 · exact .inl ⟨hb,dec1 s p hb⟩
 · refine .inr ⟨by omega,?_⟩
   obtain ⟨c,n,hd⟩:∃ c n,Utf8.decode s p=(c,n):=⟨_,_,rfl⟩
   have hn:n=1:=by rw [←h];unfold uw;rw [hd]
   subst hn
   have hc:c=65533:=by
    unfold Utf8.decode at hd
    simp only [Nat.add_zero] at hd
    rw [if_neg hb] at hd
    repeat' split at hd
    all_goals (simp only [Prod.mk.injEq,Utf8.runeError] at hd;omega)
   rw [hd,hc]
theorem prefix_bytes (s:ByteArray) (p:Nat) (h:Lib.hasPrefix (s.data.toList.drop p) fffd=true):Form s p 65533 3:=by
 unfold Lib.hasPrefix at h
 rw [List.isPrefixOf_iff_prefix] at h
 obtain ⟨t,ht⟩:=h
 have hl:(s.data.toList.drop p).length=3+t.length:=by rw [←ht];simp [fffd];omega
 rw [List.length_drop,←Lib.size_eq] at hl
 have hg:∀ k (hk:k<3),s.get! (p+k)=fffd.getD k 0:=fun k hk=>by
  rw [get_bang s _ (by omega)]
  have e:(s.data.toList.drop p)[k]? = fffd[k]? := by rw [←ht,List.getElem?_append_left (by simpa [fffd] using hk)]
  rw [List.getElem?_drop] at e
  have e2:s.data.toList[p+k]? = some s[p+k]:=by
   rw [List.getElem?_eq_getElem (by rw [←Lib.size_eq];omega)];rfl
  rw [e2] at e
  simp [List.getD,←e]
 have g0:=hg 0 (by omega)
 have g1:=hg 1 (by omega)
 have g2:=hg 2 (by omega)
 rw [Nat.add_zero] at g0
 have b0:(s.get! p).toNat=224+65533 / 4096:=by rw [g0];decide
 have b1:(s.get! (p+1)).toNat=128+65533 / 64 % 64:=by rw [g1];decide
 have b2:(s.get! (p+2)).toNat=128+65533 % 64:=by rw [g2];decide
 exact ⟨by omega,dec3 s p 65533 (by omega) (by omega) (by omega) (by omega) b0 b1 b2,.inr (.inl ⟨rfl,by omega,by omega,by omega,b0,b1,b2⟩)⟩
theorem bytes_prefix (s:ByteArray) (p:Nat) (h:Form s p 65533 3):Lib.hasPrefix (s.data.toList.drop p) fffd=true:=by
 obtain ⟨hz,_,h⟩:=h
 have hb:(s.get! p).toNat=239∧(s.get! (p+1)).toNat=191∧(s.get! (p+2)).toNat=189:=by omega
 unfold Lib.hasPrefix
 rw [List.isPrefixOf_iff_prefix]
 have e:∀ k (hk:p+k<s.size),s.data.toList[p+k]'(by rw [←Lib.size_eq];exact hk)=s.get! (p+k):=fun k hk=>by rw [get_bang s _ hk];rfl
 rw [List.drop_eq_getElem_cons (by rw [←Lib.size_eq];omega),List.drop_eq_getElem_cons (by rw [←Lib.size_eq];omega),List.drop_eq_getElem_cons (by rw [←Lib.size_eq];omega)]
 have e0:=e 0 (by omega)
 have e1:=e 1 (by omega)
 have e2:=e 2 (by omega)
 simp only [Nat.add_zero] at e0
 have u0:s.get! p=239:=UInt8.toNat_inj.1 hb.1
 have u1:s.get! (p+1)=191:=UInt8.toNat_inj.1 hb.2.1
 have u2:s.get! (p+2)=189:=UInt8.toNat_inj.1 hb.2.2
 rw [e0,u0]
 refine ⟨s.data.toList.drop (p+1+1+1),?_⟩
 simp only [fffd,List.cons_append,List.nil_append,List.cons.injEq,and_true,true_and]
 exact ⟨by rw [←u1];exact e1.symm,by rw [←u2];exact e2.symm⟩
theorem stray_iff (s:ByteArray) (p:Nat):strayAt s p=true↔Utf8.decode s p=(65533,1):=by
 unfold strayAt
 rw [Bool.and_eq_true,beq_iff_eq,Bool.not_eq_true']
 constructor
 · rintro ⟨h1,h2⟩
   by_cases h:1<uw s p
   · obtain ⟨c,F⟩:=form_of s p h
     have hd:=F.2.1
     rw [hd] at h1
     simp only at h1
     subst h1
     have h3:uw s p=3:=by have:=F.2.2;omega
     rw [h3] at F
     rw [bytes_prefix s p F] at h2
     cases h2
   · have:=uw_pos s p
     have hu:uw s p=1:=by omega
     rcases one_wide s p hu with ⟨a,b⟩ | ⟨a,b⟩
     · rw [b] at h1;simp only at h1;omega
     · exact b
 · intro h
   refine ⟨by rw [h],?_⟩
   cases hp:Lib.hasPrefix (s.data.toList.drop p) fffd with
   | false=>rfl
   | true=>
    have:=(prefix_bytes s p hp).2.1
    rw [h] at this
    simp at this
theorem wd_uAt (s:ByteArray) (p:Nat):wd (uAt s p)=uw s p:=by
 by_cases h:1<uw s p
 · obtain ⟨c,F⟩:=form_of s p h
   have hns:strayAt s p=false:=by
    cases hs:strayAt s p with
    | false=>rfl
    | true=>have:=(stray_iff s p).1 hs;rw [F.2.1] at this;simp at this;omega
   rw [uAt_rune hns,F.2.1]
   have:=F.2.2
   unfold wd Lib.runeLen
   repeat' split
   all_goals omega
 · have hpos:=uw_pos s p
   have hu:uw s p=1:=by omega
   rcases one_wide s p hu with ⟨a,b⟩ | ⟨a,b⟩
   · have hns:strayAt s p=false:=by
      cases hs:strayAt s p with
      | false=>rfl
      | true=>have:=(stray_iff s p).1 hs;rw [b] at this;simp at this;omega
     rw [uAt_rune hns,b,hu]
     unfold wd Lib.runeLen
     repeat' split
     all_goals omega
   · have hlt:=(s.get! p).toNat_lt
     rw [uAt_stray ((stray_iff s p).2 b),hu,wd_stray (by omega)]
     rfl
theorem fuel (s:ByteArray):∀ k k' q,s.size≤q+k→s.size≤q+k'→unitsN s k q=unitsN s k' q
 | 0,k',q,h,_=>by rw [unitsN_end s 0 q (by omega),unitsN_end s k' q (by omega)]
 | k+1,0,q,_,h=>by rw [unitsN_end s _ q (by omega),unitsN_end s 0 q (by omega)]
 | k+1,k'+1,q,h,h'=>by
  by_cases hq:q<s.size
  · have:=uw_pos s q
    rw [unitsN_step s k q hq,unitsN_step s k' q hq,fuel s k k' (q+uw s q) (by omega) (by omega)]
  · rw [unitsN_end s _ q hq,unitsN_end s _ q hq]
def Ints (w:World) (v:Value) (xs:List Int):Prop:=
 ∃ (a:Option Addr) (cap:Nat),v = .slice a xs.length cap∧(xs=[]∨∃ g o,a=some ⟨g,o,none⟩∧∀ j,j<xs.length→w.cell? ⟨g,o+j,none⟩=some (.int .i64 (xs[j]?.getD 0)))
def bc (l:List UInt8):List Value:=l.map fun b => .int .u8 (b.toNat:Int)
end Go.Proofs
