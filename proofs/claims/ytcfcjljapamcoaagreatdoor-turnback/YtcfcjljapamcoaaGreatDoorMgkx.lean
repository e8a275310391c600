/-
  Several texts in one (Ka Kb).
-/
import Derived.RangeFuncNested
import Derived.RangeFuncBound
import Derived.RangeFuncCalls
import Derived.RangeFuncLeaves
import Derived.Shelf.Abstract
import Derived.Shelf.RegionOpen
import Derived.WalkKit
import Derived.WalkSpells
import Derived.WalkLawsBesides
import Derived.OwnWalkIn
import Derived.TacticsInMore
import Derived.LoopNIn
import Derived.LoopIn
import Derived.BigQuiet
import Derived.RegionIn
import Derived.Deep.QuietTactic
import Derived.Deep.RegionWith
import Derived.Lib.OthersKept
import Derived.Maps.AppendAt
import Derived.Lib.SmallJoins
import Derived.Shelf.SlSortCmp.QuietGrown
import Derived.ArgAppend
import Derived.Below
import Derived.Deep.LoopGhost
import Derived.Laws.CopyOwn
import Derived.Laws.MakeOwn
import Derived.Lib.AppendStr
import Derived.Lib.ConvBytes
import Derived.Lib.IndexBytes
import Derived.Lib.ParseIntB
import Derived.RangeFuncBox
import Derived.WalkMore
import Derived.Shelf.Small.Utf8
import Derived.Test.YtcfcjljapamcoaaGreatDoorMptx
import Derived.Test.YtcfcjljapamcoaaGreatDoorMpax
import Derived.Test.YtcfcjljapamcoaaGreatDoorMgdx
import Derived.Test.YtcfcjljapamcoaaGreatDoorMpox
namespace Go.Proofs
open Go.RowKit Go.Shelf
set_option maxRecDepth 100000
attribute [local go_sem] Oper.semAt_some
attribute [local go_sem ↓] Go.wp_at_zero Go.wp_at_succ
def put (u:Int):ByteArray:=if 1114240≤u∧u≤1114367 then ⟨#[UInt8.ofNat (u - 1114112).toNat]⟩ else if (0≤u∧u<55296)∨(57343<u∧u≤1114111) then Utf8.encode u else ByteArray.empty
theorem put_stray {u:Int} (h:1114240≤u∧u≤1114367):put u=⟨#[UInt8.ofNat (u - 1114112).toNat]⟩:=by unfold put;rw [if_pos h]
theorem put_rune {u:Int} (h:(0≤u∧u<55296)∨(57343<u∧u≤1114111)):put u=Utf8.encode u:=by unfold put;rw [if_neg (by omega),if_pos h]
theorem put_no {u:Int} (h1:u<1114240∨1114367<u) (h:u<0∨1114111<u∨(55296≤u∧u≤57343)):put u=ByteArray.empty:=by unfold put;rw [if_neg (by omega),if_neg (by omega)]
theorem info_parts {α:Type} {i:Option α} {β γ δ:Type} {f:α→β} {g:α→γ} {h:α→δ} {b:β} {c:γ} {d:δ} (e:i.map (fun x=>(f x,g x,h x))=some (b,c,d)):∃ x,i=some x∧f x=b∧g x=c∧h x=d:=by
 cases i with
 | none=>cases e
 | some x=>simp at e;exact ⟨x,rfl,e.1,e.2.1,e.2.2⟩
theorem dec1 (s:ByteArray) (p:Nat) (h:(s.get! p).toNat<128):Utf8.decode s p=((s.get! p).toNat,1):=by
 unfold Utf8.decode
 simp only [Nat.add_zero]
 rw [if_pos (by omega)]
theorem dec2 (s:ByteArray) (p c:Nat) (h0:128≤c) (h1:c<2048) (hs:p+1<s.size) (b0:(s.get! p).toNat=192+c / 64) (b1:(s.get! (p+1)).toNat=128+c % 64):Utf8.decode s p=(c,2):=by
 unfold Utf8.decode
 simp only [Nat.add_zero,b0,b1]
 rw [if_neg (by omega),if_pos (by simp [hs];omega),if_pos (by omega)]
 rw [Prod.mk.injEq];omega
theorem dec3 (s:ByteArray) (p c:Nat) (h0:2048≤c) (h1:c<65536) (hv:c<55296∨57344≤c) (hs:p+2<s.size) (b0:(s.get! p).toNat=224+c / 4096) (b1:(s.get! (p+1)).toNat=128+c / 64 % 64) (b2:(s.get! (p+2)).toNat=128+c % 64):Utf8.decode s p=(c,3):=by
 have hs1:p+1<s.size:=by omega
 unfold Utf8.decode
 simp only [Nat.add_zero,b0,b1,b2]
 rw [if_neg (by omega),if_neg (by simp;omega),if_pos (by simp [hs,hs1];omega)]
 have e:(224+c / 4096) % 16*4096+(128+c / 64 % 64) % 64*64+(128+c % 64) % 64=c:=by omega
 rw [e,if_pos (by simp [Utf8.valid];omega)]
theorem dec4 (s:ByteArray) (p c:Nat) (h0:65536≤c) (h1:c<1114112) (hs:p+3<s.size) (b0:(s.get! p).toNat=240+c / 262144) (b1:(s.get! (p+1)).toNat=128+c / 4096 % 64) (b2:(s.get! (p+2)).toNat=128+c / 64 % 64) (b3:(s.get! (p+3)).toNat=128+c % 64):Utf8.decode s p=(c,4):=by
 have hs1:p+1<s.size:=by omega
 have hs2:p+2<s.size:=by omega
 unfold Utf8.decode
 simp only [Nat.add_zero,b0,b1,b2,b3]
 rw [if_neg (by omega),if_neg (by simp;omega),if_neg (by simp;omega),if_pos (by simp [hs,hs1,hs2];omega)]
 have e:(240+c / 262144) % 8*262144+(128+c / 4096 % 64) % 64*4096+(128+c / 64 % 64) % 64*64+(128+c % 64) % 64=c:=by omega
 rw [e,if_pos (by simp [Utf8.valid];omega)]
theorem size_lit (l:List UInt8):(⟨l.toArray⟩:ByteArray).size=l.length:=by simp [ByteArray.size]
theorem b8 (n:Nat) (h:n<256):(UInt8.ofNat n).toNat=n:=by rw [UInt8.toNat_ofNat'];omega
theorem enc1 (c:Nat) (h:c<128):Utf8.encode (c:Int)=⟨[UInt8.ofNat c].toArray⟩:=by
 unfold Utf8.encode
 have hv:Utf8.valid (c:Int)=true:=by simp [Utf8.valid];omega
 simp only [hv,if_true,Int.toNat_natCast]
 rw [if_pos (by omega)]
theorem enc2 (c:Nat) (h0:128≤c) (h:c<2048):Utf8.encode (c:Int)=⟨[UInt8.ofNat (192+c / 64),UInt8.ofNat (128+c % 64)].toArray⟩:=by
 unfold Utf8.encode
 have hv:Utf8.valid (c:Int)=true:=by simp [Utf8.valid];omega
 simp only [hv,if_true,Int.toNat_natCast]
 rw [if_neg (by omega),if_pos (by omega)]
theorem enc3 (c:Nat) (h0:2048≤c) (h:c<65536) (hv:c<55296∨57344≤c):Utf8.encode (c:Int)=⟨[UInt8.ofNat (224+c / 4096),UInt8.ofNat (128+c / 64 % 64),UInt8.ofNat (128+c % 64)].toArray⟩:=by
 unfold Utf8.encode
 have hv:Utf8.valid (c:Int)=true:=by simp [Utf8.valid];omega
 simp only [hv,if_true,Int.toNat_natCast]
 rw [if_neg (by omega),if_neg (by omega),if_pos (by omega)]
theorem enc4 (c:Nat) (h0:65536≤c) (h:c<1114112):Utf8.encode (c:Int)=⟨[UInt8.ofNat (240+c / 262144),UInt8.ofNat (128+c / 4096 % 64),UInt8.ofNat (128+c / 64 % 64),UInt8.ofNat (128+c % 64)].toArray⟩:=by
 unfold Utf8.encode
 have hv:Utf8.valid (c:Int)=true:=by simp [Utf8.valid];omega
 simp only [hv,if_true,Int.toNat_natCast]
 rw [if_neg (by omega),if_neg (by omega),if_neg (by omega)]
theorem uw_many (s:ByteArray) (p:Nat) (h:1<uw s p):p+uw s p≤s.size∧(s.get! p).toNat / 64=3∧∀ k,1≤k→k<uw s p→(s.get! (p+k)).toNat / 64=2:=by
 have h0:=(s.get! p).toNat_lt
 unfold uw Utf8.decode at *
 simp only [Nat.add_zero] at *
 split at h
 · simp at h
 · split at h
   · rename_i h1 h2
     simp only [Bool.and_eq_true,decide_eq_true_eq,beq_iff_eq] at h2
     split at h
     · rename_i h3
       rw [if_neg h1,if_pos (by simpa using h2),if_pos h3]
       refine ⟨by simp only;omega,by omega,fun k hk1 hk2 => ?_⟩
       simp only at hk2
       obtain rfl:k=1:=by omega
       omega
     · simp at h
   · split at h
     · rename_i h1 h2 h3
       split at h
       · rename_i h4
         rw [if_neg h1,if_neg h2,if_pos h3,if_pos h4]
         simp only [Bool.and_eq_true,decide_eq_true_eq,beq_iff_eq] at h3
         refine ⟨by simp only;omega,by omega,fun k hk1 hk2 => ?_⟩
         simp only at hk2
         have:k=1∨k=2:=by omega
         rcases this with rfl | rfl <;> omega
       · simp at h
     · split at h
       · rename_i h1 h2 h3 h5
         split at h
         · rename_i h4
           rw [if_neg h1,if_neg h2,if_neg h3,if_pos h5,if_pos h4]
           simp only [Bool.and_eq_true,decide_eq_true_eq,beq_iff_eq] at h5
           refine ⟨by simp only;omega,by omega,fun k hk1 hk2 => ?_⟩
           simp only at hk2
           have:k=1∨k=2∨k=3:=by omega
           rcases this with rfl | rfl | rfl <;> omega
         · simp at h
       · simp at h
def Form (s:ByteArray) (p c n:Nat):Prop:=p+n≤s.size∧Utf8.decode s p=(c,n) ∧
 ((n=2∧128≤c∧c<2048∧(s.get! p).toNat=192+c / 64∧(s.get! (p+1)).toNat=128+c % 64) ∨
  (n=3∧2048≤c∧c<65536∧(c<55296∨57344≤c)∧(s.get! p).toNat=224+c / 4096∧(s.get! (p+1)).toNat=128+c / 64 % 64∧(s.get! (p+2)).toNat=128+c % 64) ∨
  (n=4∧65536≤c∧c<1114112∧(s.get! p).toNat=240+c / 262144∧(s.get! (p+1)).toNat=128+c / 4096 % 64∧(s.get! (p+2)).toNat=128+c / 64 % 64∧(s.get! (p+3)).toNat=128+c % 64))
theorem form_of (s:ByteArray) (p:Nat) (h:1<uw s p):∃ c,Form s p c (uw s p):=by
 have h0:=(s.get! p).toNat_lt
 have h1':=(s.get! (p+1)).toNat_lt
 have h2':=(s.get! (p+2)).toNat_lt
 have h3':=(s.get! (p+3)).toNat_lt
 have hle:=(uw_many s p h).1
 obtain ⟨c,n,hd⟩:∃ c n,Utf8.decode s p=(c,n):=⟨_,_,rfl⟩
 have hn:uw s p=n:=by unfold uw;rw [hd]
 rw [hn] at h hle ⊢
 refine ⟨c,hle,hd,?_⟩
 unfold Utf8.decode at hd
 simp only [Nat.add_zero] at hd
 split at hd
 · simp only [Prod.mk.injEq] at hd;omega
 · split at hd
   · rename_i h1 h2
     simp only [Bool.and_eq_true,decide_eq_true_eq,beq_iff_eq] at h2
     split at hd
     · simp only [Prod.mk.injEq] at hd
       left;omega
     · simp only [Prod.mk.injEq] at hd;omega
   · split at hd
     · rename_i h1 h2 h3
       simp only [Bool.and_eq_true,decide_eq_true_eq,beq_iff_eq] at h3
       split at hd
       · rename_i h4
         simp only [Prod.mk.injEq] at hd
         simp only [Utf8.valid,Bool.and_eq_true,Bool.or_eq_true,decide_eq_true_eq] at h4
         right;left;omega
       · simp only [Prod.mk.injEq] at hd;omega
     · split at hd
       · rename_i h1 h2 h3 h5
         simp only [Bool.and_eq_true,decide_eq_true_eq,beq_iff_eq] at h5
         split at hd
         · rename_i h4
           simp only [Prod.mk.injEq] at hd
           simp only [Utf8.valid,Bool.and_eq_true,Bool.or_eq_true,decide_eq_true_eq] at h4
           right;right;omega
         · simp only [Prod.mk.injEq] at hd;omega
       · simp only [Prod.mk.injEq] at hd;omega
def bord (s:ByteArray) (p:Nat):Prop:=∀ q,q<p→q+uw s q≤p
theorem bord_size (s:ByteArray):bord s s.size:=fun q h=>by
 by_cases h1:1<uw s q
 · exact (uw_many s q h1).1
 · omega
theorem get_ext (s:ByteArray) (f e r:Nat) (h:f+r<e) (he:e≤s.size):(s.extract f e).get! r=s.get! (f+r):=by
 have hz:(s.extract f e).size=e - f:=by simp [ByteArray.size_extract];omega
 rw [get_bang _ _ (by omega),get_bang _ _ (by omega)]
 simp [ByteArray.getElem_extract]
theorem one_wide (s:ByteArray) (p:Nat) (h:uw s p=1):((s.get! p).toNat<128∧Utf8.decode s p=((s.get! p).toNat,1))∨(128≤(s.get! p).toNat∧Utf8.decode s p=(65533,1)):=by
 by_cases hb:(s.get! p).toNat<128
 · exact .inl ⟨hb,dec1 s p hb⟩
 · refine .inr ⟨by omega,?_⟩
   obtain ⟨c,n,hd⟩:∃ c n,Utf8.decode s p=(c,n):=⟨_,_,rfl⟩
   have hn:n=1:=by rw [←h];unfold uw;rw [hd]
   subst hn
   have hc:c=65533:=by
    unfold Utf8.decode at hd
    simp only [Nat.add_zero] at hd
    rw [if_neg hb] at hd
    repeat' split at hd
    all_goals (simp only [Prod.mk.injEq,Utf8.runeError] at hd;omega)
   rw [hd,hc]
theorem prefix_bytes (s:ByteArray) (p:Nat) (h:Lib.hasPrefix (s.data.toList.drop p) fffd=true):Form s p 65533 3:=by
 unfold Lib.hasPrefix at h
 rw [List.isPrefixOf_iff_prefix] at h
 obtain ⟨t,ht⟩:=h
 have hl:(s.data.toList.drop p).length=3+t.length:=by rw [←ht];simp [fffd];omega
 rw [List.length_drop,←Lib.size_eq] at hl
 have hg:∀ k (hk:k<3),s.get! (p+k)=fffd.getD k 0:=fun k hk=>by
  rw [get_bang s _ (by omega)]
  have e:(s.data.toList.drop p)[k]? = fffd[k]? := by rw [←ht,List.getElem?_append_left (by simpa [fffd] using hk)]
  rw [List.getElem?_drop] at e
  have e2:s.data.toList[p+k]? = some s[p+k]:=by
   rw [List.getElem?_eq_getElem (by rw [←Lib.size_eq];omega)];rfl
  rw [e2] at e
  simp [List.getD,←e]
 have g0:=hg 0 (by omega)
 have g1:=hg 1 (by omega)
 have g2:=hg 2 (by omega)
 rw [Nat.add_zero] at g0
 have b0:(s.get! p).toNat=224+65533 / 4096:=by rw [g0];decide
 have b1:(s.get! (p+1)).toNat=128+65533 / 64 % 64:=by rw [g1];decide
 have b2:(s.get! (p+2)).toNat=128+65533 % 64:=by rw [g2];decide
 exact ⟨by omega,dec3 s p 65533 (by omega) (by omega) (by omega) (by omega) b0 b1 b2,.inr (.inl ⟨rfl,by omega,by omega,by omega,b0,b1,b2⟩)⟩
theorem bytes_prefix (s:ByteArray) (p:Nat) (h:Form s p 65533 3):Lib.hasPrefix (s.data.toList.drop p) fffd=true:=by
 obtain ⟨hz,_,h⟩:=h
 have hb:(s.get! p).toNat=239∧(s.get! (p+1)).toNat=191∧(s.get! (p+2)).toNat=189:=by omega
 unfold Lib.hasPrefix
 rw [List.isPrefixOf_iff_prefix]
 have e:∀ k (hk:p+k<s.size),s.data.toList[p+k]'(by rw [←Lib.size_eq];exact hk)=s.get! (p+k):=fun k hk=>by rw [get_bang s _ hk];rfl
 rw [List.drop_eq_getElem_cons (by rw [←Lib.size_eq];omega),List.drop_eq_getElem_cons (by rw [←Lib.size_eq];omega),List.drop_eq_getElem_cons (by rw [←Lib.size_eq];omega)]
 have e0:=e 0 (by omega)
 have e1:=e 1 (by omega)
 have e2:=e 2 (by omega)
 simp only [Nat.add_zero] at e0
 have u0:s.get! p=239:=UInt8.toNat_inj.1 hb.1
 have u1:s.get! (p+1)=191:=UInt8.toNat_inj.1 hb.2.1
 have u2:s.get! (p+2)=189:=UInt8.toNat_inj.1 hb.2.2
 rw [e0,u0]
 refine ⟨s.data.toList.drop (p+1+1+1),?_⟩
 simp only [fffd,List.cons_append,List.nil_append,List.cons.injEq,and_true,true_and]
 exact ⟨by rw [←u1];exact e1.symm,by rw [←u2];exact e2.symm⟩
theorem stray_iff (s:ByteArray) (p:Nat):strayAt s p=true↔Utf8.decode s p=(65533,1):=by
 unfold strayAt
 rw [Bool.and_eq_true,beq_iff_eq,Bool.not_eq_true']
 constructor
 · rintro ⟨h1,h2⟩
   by_cases h:1<uw s p
   · obtain ⟨c,F⟩:=form_of s p h
     have hd:=F.2.1
     rw [hd] at h1
     simp only at h1
     subst h1
     have h3:uw s p=3:=by have:=F.2.2;omega
     rw [h3] at F
     rw [bytes_prefix s p F] at h2
     cases h2
   · have:=uw_pos s p
     have hu:uw s p=1:=by omega
     rcases one_wide s p hu with ⟨a,b⟩ | ⟨a,b⟩
     · rw [b] at h1;simp only at h1;omega
     · exact b
 · intro h
   refine ⟨by rw [h],?_⟩
   cases hp:Lib.hasPrefix (s.data.toList.drop p) fffd with
   | false=>rfl
   | true=>
    have:=(prefix_bytes s p hp).2.1
    rw [h] at this
    simp at this
theorem wd_uAt (s:ByteArray) (p:Nat):wd (uAt s p)=uw s p:=by
 by_cases h:1<uw s p
 · obtain ⟨c,F⟩:=form_of s p h
   have hns:strayAt s p=false:=by
    cases hs:strayAt s p with
    | false=>rfl
    | true=>have:=(stray_iff s p).1 hs;rw [F.2.1] at this;simp at this;omega
   rw [uAt_rune hns,F.2.1]
   have:=F.2.2
   unfold wd Lib.runeLen
   repeat' split
   all_goals omega
 · have hpos:=uw_pos s p
   have hu:uw s p=1:=by omega
   rcases one_wide s p hu with ⟨a,b⟩ | ⟨a,b⟩
   · have hns:strayAt s p=false:=by
      cases hs:strayAt s p with
      | false=>rfl
      | true=>have:=(stray_iff s p).1 hs;rw [b] at this;simp at this;omega
     rw [uAt_rune hns,b,hu]
     unfold wd Lib.runeLen
     repeat' split
     all_goals omega
   · have hlt:=(s.get! p).toNat_lt
     rw [uAt_stray ((stray_iff s p).2 b),hu,wd_stray (by omega)]
     rfl
theorem uw_in (s:ByteArray) (q:Nat) (h:q<s.size):q+uw s q≤s.size:=bord_size s q h
theorem fuel (s:ByteArray):∀ k k' q,s.size≤q+k→s.size≤q+k'→unitsN s k q=unitsN s k' q
 | 0,k',q,h,_=>by rw [unitsN_end s 0 q (by omega),unitsN_end s k' q (by omega)]
 | k+1,0,q,_,h=>by rw [unitsN_end s _ q (by omega),unitsN_end s 0 q (by omega)]
 | k+1,k'+1,q,h,h'=>by
  by_cases hq:q<s.size
  · have:=uw_pos s q
    rw [unitsN_step s k q hq,unitsN_step s k' q hq,fuel s k k' (q+uw s q) (by omega) (by omega)]
  · rw [unitsN_end s _ q hq,unitsN_end s _ q hq]
theorem w64b (b:UInt8):wrap64 (b.toNat:Int)=(b.toNat:Int):=by
 have:=b.toNat_lt
 rw [←IntWalk.i64_left];exact IntWalk.i64_in _ (by omega)
def flat (l:List (Nat × Nat)):List Value:=l.flatMap fun x=>[Value.int .i64 (x.1:Int),Value.int .i64 (x.2:Int)]
theorem info3:(Tryz.prog.info? 3).map (fun i=>(i.zero,i.size,i.bytes))=some (some (.int .i64 0),1,8):=by kernel_rfl
def Ints (w:World) (v:Value) (xs:List Int):Prop:=
 ∃ (a:Option Addr) (cap:Nat),v = .slice a xs.length cap∧(xs=[]∨∃ g o,a=some ⟨g,o,none⟩∧∀ j,j<xs.length→w.cell? ⟨g,o+j,none⟩=some (.int .i64 (xs[j]?.getD 0)))
def low (c:Nat):Nat→List UInt8
 | 0=>[]
 | k+1=>UInt8.ofNat (128+c / 64 ^ k % 64)::low c k
def bc (l:List UInt8):List Value:=l.map fun b => .int .u8 (b.toNat:Int)
theorem low_length (c k:Nat):(low c k).length=k:=by induction k with | zero=>rfl | succ k ih=>simp [low,ih]
theorem bc_low_succ (c k x:Nat) (h:x=c / 64 ^ k):[Value.int .u8 (128+(x:Int) % 64)]++bc (low c k)=bc (low c (k+1)):=by
 have e:low c (k+1)=UInt8.ofNat (128+c / 64 ^ k % 64)::low c k:=rfl
 have e2:bc (low c (k+1))=Value.int .u8 (((UInt8.ofNat (128+c / 64 ^ k % 64)).toNat:Nat):Int)::bc (low c k):=by rw [e];rfl
 rw [e2,b8 _ (by omega),←h,List.singleton_append]
 congr 1
def bspec (first:Int) (c n:Nat):List Value:=Value.int .u8 (first+((c / 64 ^ (n - 1):Nat):Int))::bc (low c (n - 1))
theorem bspec_of {first:Int} {c n k x:Nat} (hk:n - 1=k) (hx:x=c / 64 ^ k):[Value.int .u8 (first+(x:Int))]++bc (low c k)=bspec first c n:=by
 unfold bspec;rw [hk,hx];rfl
theorem info51:(Tryz.prog.info? 5).map (fun i=>(i.zero,i.size,i.bytes))=some (some (.int .u8 0),1,1):=by kernel_rfl
set_option maxHeartbeats 2000000 in
theorem bytes_many (c n:Nat) (first:Int) (w:World) (hw:wd c=n) (hn:(n=2∧first=192)∨(n=3∧first=224)∨(n=4∧first=240)) (hc:c<1114112) (hx:first+((c / 64 ^ (n - 1):Nat):Int)<256) :
 Calls Tryz.prog 117 #[.int .i64 c] w fun e w'=>∃ v,e = .returned v∧w'.ownsRow w.heap.size 5 1 v n (bspec first c n)∧Below w.heap.size w w':=by
 obtain ⟨i0,hi,hz0,hz1,hz2⟩:=info_parts info51
 have hwd:∀ W:World,Calls Tryz.prog 90 #[.int .i64 c] W fun e w'=>e = .returned (.int .i64 n)∧w'=W:=fun W=>by have:=rwidth_any c W;rw [hw] at this;exact this
 have HC:Hid (∀ W:World,Calls Tryz.prog 90 #[.int .i64 c] W fun e w'=>e = .returned (.int .i64 n)∧w'=W):=hwd
 have hn2:2≤n∧n≤4:=by omega
 obtain ⟨hn2,hn4⟩:=hn2
 have e0:((n:Int) == 0)=false:=by simp;omega
 have e1:((n:Int) == 1)=false:=by simp;omega
 have e2:decide (1114112≤(c:Int))=false:=by simp;omega
 clear hwd hw
 go_enter Tryz.func117,Tryz.ntmps117
 go_wp2_with (go_at_call 90;refine (HC.out _).mono ?_;rintro e w' ⟨rfl,rfl⟩)
 go_loopw [0,4,5] (fun vu vo vi wr=>∃ (k x g cap:Nat),vu = .int .i64 x∧vo = .slice (some ⟨g,0,none⟩) k cap∧vi = .int .i64 ((k:Int)+1)∧k+1≤n∧Hid (x=c / 64 ^ k)∧x<1114112∧wr.ownsRow w'.heap.size 5 1 (.slice (some ⟨g,0,none⟩) k cap) k (bc (low c k))∧Below w'.heap.size w' wr) (fun _ _ vi _=>n - (intOf vi).toNat)
 case atStart=>
  exact ⟨0,c,_,_,rfl,rfl,rfl,by omega,by simp [Hid],hc,World.ownsRow_lit _ #[] 0 (Nat.le_refl _) (by unfold maxLen;omega) rfl,(Below.refl _ _).alloc (Nat.le_refl _) _⟩
 case round=>
  obtain ⟨k,x,g,cap,rfl,rfl,rfl,hk,hX,hx0,hown,hb⟩:=hrel
  by_cases hlt:k+1<n
  · have hz:=hb.size
    have hxi:(x:Int)<1114112:=by omega
    have hlt':(k:Int)+1<(n:Int):=by omega
    have hlow:(bc (low c k)).length=k:=by simp [bc,low_length]
    go_wp2_with (at_builtin;go_must (refine wpList_append_own _ rfl _ _ 153 rfl w'.heap.size 5 i0 (.int .u8 0) 1 1 Tryz.underlying153 hi hz0 hz1 hz2 rfl (by decide) _ _ _ rfl (World.ownsRow_lit wr #[.int .u8 (128+(x:Int) % 64)] 1 hz (by unfold maxLen;omega) rfl) ⟨g,0,none⟩ k cap (bc (low c k)) rfl (by rw [hlow];omega) (fun j u hu=>(hown.alloc _).cells rfl j u hu) (by intro u hu;simp [bc] at hu;obtain ⟨b,_,rfl⟩:=hu;rfl) (by unfold maxLen;omega) (by omega) (by simp;omega) ?_);intro v' w1 hown' hgrow _)
    rw [show 1+k=k+1 by omega,bc_low_succ c k x hX.out] at hown'
    obtain ⟨g',cap',rfl⟩:=ownsRow_succ hown'
    have hdiv:x / 64=c / 64 ^ (k+1):=by rw [hX.out,Nat.div_div_eq_div_mul,Nat.pow_succ]
    exact ⟨⟨k+1,x / 64,g',cap',by go_num,rfl,by go_num,by omega,hdiv,by omega,hown',(hb.alloc hz _).grown hgrow (by simp;omega) (fun j e=>by cases e;exact hz)⟩,by simp [intOf];omega⟩
  · have hkn:k+1=n:=by omega
    have hz:=hb.size
    have hlow:(bc (low c k)).length=k:=by simp [bc,low_length]
    have hk1:n - 1=k:=by omega
    rw [hk1,←hX.out] at hx
    have HK:Hid (n - 1=k):=hk1
    clear hk1
    have hge:¬ ((k:Int)+1<(n:Int)):=by omega
    rcases hn with ⟨rfl,rfl⟩ | ⟨rfl,rfl⟩ | ⟨rfl,rfl⟩
    · have hlit:=World.ownsRow_lit (base:=w'.heap.size) (e:=5) (size:=1) (wr.alloc (.cells #[.int .i64 0,.int .i64 0,.int .i64 192,.int .i64 224,.int .i64 240] 3)) #[.int .u8 (192+(x:Int))] 1 (by rw [World.size_alloc];omega) (by unfold maxLen;omega) rfl
      rw [World.size_alloc] at hlit
      go_wp2_with (at_builtin;go_must (refine wpList_append_own _ rfl _ _ 153 rfl w'.heap.size 5 i0 (.int .u8 0) 1 1 Tryz.underlying153 hi hz0 hz1 hz2 rfl (by decide) _ _ _ rfl hlit ⟨g,0,none⟩ k cap (bc (low c k)) rfl (by rw [hlow];omega) (fun j u hu=>((hown.alloc _).alloc _).cells rfl j u hu) (by intro u hu;simp [bc] at hu;obtain ⟨b,_,rfl⟩:=hu;rfl) (by unfold maxLen;omega) (by omega) (by rw [World.size_alloc,World.size_alloc];omega) ?_);intro v' w1 hown' hgrow _)
      go_ret
      rw [show 1+k=2 by omega] at hown'
      have hsp:=bspec_of (first:=192) HK.out hX.out
      rw [←hsp]
      exact ⟨v',rfl,hown',((hb.alloc hz _).alloc (by rw [World.size_alloc];omega) _).grown hgrow (by rw [World.size_alloc,World.size_alloc];omega) (fun j e=>by cases e;show _≤wr.heap.size+1;omega)⟩
    · have hlit:=World.ownsRow_lit (base:=w'.heap.size) (e:=5) (size:=1) (wr.alloc (.cells #[.int .i64 0,.int .i64 0,.int .i64 192,.int .i64 224,.int .i64 240] 3)) #[.int .u8 (224+(x:Int))] 1 (by rw [World.size_alloc];omega) (by unfold maxLen;omega) rfl
      rw [World.size_alloc] at hlit
      go_wp2_with (at_builtin;go_must (refine wpList_append_own _ rfl _ _ 153 rfl w'.heap.size 5 i0 (.int .u8 0) 1 1 Tryz.underlying153 hi hz0 hz1 hz2 rfl (by decide) _ _ _ rfl hlit ⟨g,0,none⟩ k cap (bc (low c k)) rfl (by rw [hlow];omega) (fun j u hu=>((hown.alloc _).alloc _).cells rfl j u hu) (by intro u hu;simp [bc] at hu;obtain ⟨b,_,rfl⟩:=hu;rfl) (by unfold maxLen;omega) (by omega) (by rw [World.size_alloc,World.size_alloc];omega) ?_);intro v' w1 hown' hgrow _)
      go_ret
      rw [show 1+k=3 by omega] at hown'
      have hsp:=bspec_of (first:=224) HK.out hX.out
      rw [←hsp]
      exact ⟨v',rfl,hown',((hb.alloc hz _).alloc (by rw [World.size_alloc];omega) _).grown hgrow (by rw [World.size_alloc,World.size_alloc];omega) (fun j e=>by cases e;show _≤wr.heap.size+1;omega)⟩
    · have hlit:=World.ownsRow_lit (base:=w'.heap.size) (e:=5) (size:=1) (wr.alloc (.cells #[.int .i64 0,.int .i64 0,.int .i64 192,.int .i64 224,.int .i64 240] 3)) #[.int .u8 (240+(x:Int))] 1 (by rw [World.size_alloc];omega) (by unfold maxLen;omega) rfl
      rw [World.size_alloc] at hlit
      go_wp2_with (at_builtin;go_must (refine wpList_append_own _ rfl _ _ 153 rfl w'.heap.size 5 i0 (.int .u8 0) 1 1 Tryz.underlying153 hi hz0 hz1 hz2 rfl (by decide) _ _ _ rfl hlit ⟨g,0,none⟩ k cap (bc (low c k)) rfl (by rw [hlow];omega) (fun j u hu=>((hown.alloc _).alloc _).cells rfl j u hu) (by intro u hu;simp [bc] at hu;obtain ⟨b,_,rfl⟩:=hu;rfl) (by unfold maxLen;omega) (by omega) (by rw [World.size_alloc,World.size_alloc];omega) ?_);intro v' w1 hown' hgrow _)
      go_ret
      rw [show 1+k=4 by omega] at hown'
      have hsp:=bspec_of (first:=240) HK.out hX.out
      rw [←hsp]
      exact ⟨v',rfl,hown',((hb.alloc hz _).alloc (by rw [World.size_alloc];omega) _).grown hgrow (by rw [World.size_alloc,World.size_alloc];omega) (fun j e=>by cases e;show _≤wr.heap.size+1;omega)⟩
set_option maxHeartbeats 1000000 in
theorem bytes_none (u:Int) (w:World) (hw:wd u=0):Calls Tryz.prog 117 #[.int .i64 u] w fun e w'=>e = .returned (.slice none 0 0)∧w'=w:=by
 have hwd:∀ W:World,Calls Tryz.prog 90 #[.int .i64 u] W fun e w'=>e = .returned (.int .i64 0)∧w'=W:=fun W=>by have:=rwidth_any u W;rw [hw] at this;exact this
 have HC:Hid (∀ W:World,Calls Tryz.prog 90 #[.int .i64 u] W fun e w'=>e = .returned (.int .i64 0)∧w'=W):=hwd
 clear hwd hw
 go_enter Tryz.func117,Tryz.ntmps117
 go_wp2_with (go_at_call 90;refine (HC.out _).mono ?_;rintro e w' ⟨rfl,rfl⟩)
 go_ret
 exact ⟨rfl,rfl⟩
set_option maxHeartbeats 1000000 in
theorem bytes_stray (u:Int) (w:World) (h0:1114240≤u) (h1:u≤1114367):Calls Tryz.prog 117 #[.int .i64 u] w fun e w'=>e = .returned (.slice (some ⟨w.heap.size,0,none⟩) 1 1)∧w'=w.alloc (.cells #[.int .u8 (u - 1114112)] 5):=by
 have hwd:∀ W:World,Calls Tryz.prog 90 #[.int .i64 u] W fun e w'=>e = .returned (.int .i64 1)∧w'=W:=fun W=>by have:=rwidth_any u W;rw [wd_stray ⟨h0,h1⟩] at this;exact this
 have HC:Hid (∀ W:World,Calls Tryz.prog 90 #[.int .i64 u] W fun e w'=>e = .returned (.int .i64 1)∧w'=W):=hwd
 clear hwd
 go_enter Tryz.func117,Tryz.ntmps117
 go_wp2_with (go_at_call 90;refine (HC.out _).mono ?_;rintro e w' ⟨rfl,rfl⟩)
 go_ret
 exact ⟨rfl,rfl⟩
set_option maxHeartbeats 1000000 in
theorem bytes_ascii (u:Int) (w:World) (h0:0≤u) (h1:u≤127):Calls Tryz.prog 117 #[.int .i64 u] w fun e w'=>e = .returned (.slice (some ⟨w.heap.size,0,none⟩) 1 1)∧w'=w.alloc (.cells #[.int .u8 u] 5):=by
 have hwd:∀ W:World,Calls Tryz.prog 90 #[.int .i64 u] W fun e w'=>e = .returned (.int .i64 1)∧w'=W:=fun W=>by have:=rwidth_any u W;rw [show wd u=1 by unfold wd Lib.runeLen;repeat' split <;> omega] at this;exact this
 have HC:Hid (∀ W:World,Calls Tryz.prog 90 #[.int .i64 u] W fun e w'=>e = .returned (.int .i64 1)∧w'=W):=hwd
 clear hwd
 go_enter Tryz.func117,Tryz.ntmps117
 go_wp2_with (go_at_call 90;refine (HC.out _).mono ?_;rintro e w' ⟨rfl,rfl⟩)
 go_ret
 exact ⟨rfl,rfl⟩
theorem bc_cons (n:Nat) (l:List UInt8) (h:n<256):bc (UInt8.ofNat n::l)=Value.int .u8 (n:Int)::bc l:=by
 show Value.int .u8 (((UInt8.ofNat n).toNat:Nat):Int)::bc l=_
 rw [b8 n h]
theorem bytes_any (u:Int) (w:World):Calls Tryz.prog 117 #[.int .i64 u] w fun e w'=>∃ v,e = .returned v∧w'.ownsRow w.heap.size 5 1 v (put u).size (bc (put u).data.toList)∧Below w.heap.size w w':=by
 by_cases a:1114240≤u∧u≤1114367
 · refine (bytes_stray u w a.1 a.2).mono ?_
   rintro e w' ⟨rfl,rfl⟩
   rw [put_stray a]
   have hl:=World.ownsRow_lit (base:=w.heap.size) (e:=5) (size:=1) w #[.int .u8 (u - 1114112)] 1 (Nat.le_refl _) (by unfold maxLen;omega) rfl
   refine ⟨_,rfl,?_,(Below.refl _ _).alloc (Nat.le_refl _) _⟩
   rw [show bc (⟨#[UInt8.ofNat (u - 1114112).toNat]⟩:ByteArray).data.toList=[Value.int .u8 (u - 1114112)] from by
    rw [show (⟨#[UInt8.ofNat (u - 1114112).toNat]⟩:ByteArray).data.toList=[UInt8.ofNat (u - 1114112).toNat] from rfl,bc_cons _ _ (by omega),show (((u - 1114112).toNat:Nat):Int)=u - 1114112 by omega];rfl]
   exact hl
 · by_cases b:(0≤u∧u<55296)∨(57343<u∧u≤1114111)
   · rw [put_rune b]
     obtain ⟨c,rfl⟩:∃ c:Nat,u=c:=⟨u.toNat,by omega⟩
     have wr:=wd_rune b
     by_cases h1:c<128
     · refine (bytes_ascii c w (by omega) (by omega)).mono ?_
       rintro e w' ⟨rfl,rfl⟩
       have hl:=World.ownsRow_lit (base:=w.heap.size) (e:=5) (size:=1) w #[.int .u8 (c:Int)] 1 (Nat.le_refl _) (by unfold maxLen;omega) rfl
       refine ⟨_,rfl,?_,(Below.refl _ _).alloc (Nat.le_refl _) _⟩
       rw [enc1 c h1,size_lit,show bc (⟨[UInt8.ofNat c].toArray⟩:ByteArray).data.toList=[Value.int .u8 (c:Int)] from bc_cons c [] (by omega)]
       exact hl
     · by_cases h2:c<2048
       · have hw:wd c=(2:Nat):=by rw [wr];unfold Lib.runeLen;repeat' split <;> omega
         refine (bytes_many c 2 192 w hw (by omega) (by omega) (by simp;omega)).mono ?_
         rintro e w' ⟨v,rfl,hown,hb⟩
         refine ⟨v,rfl,?_,hb⟩
         rw [enc2 c (by omega) h2,size_lit,show bc (⟨[UInt8.ofNat (192+c / 64),UInt8.ofNat (128+c % 64)].toArray⟩:ByteArray).data.toList=bspec 192 c 2 from by
          show bc [UInt8.ofNat (192+c / 64),UInt8.ofNat (128+c % 64)]=_
          rw [bc_cons _ _ (by omega)]
          unfold bspec
          simp [low]]
         exact hown
       · by_cases h3:c<65536
         · have hw:wd c=(3:Nat):=by rw [wr];unfold Lib.runeLen;repeat' split <;> omega
           refine (bytes_many c 3 224 w hw (by omega) (by omega) (by simp;omega)).mono ?_
           rintro e w' ⟨v,rfl,hown,hb⟩
           refine ⟨v,rfl,?_,hb⟩
           rw [enc3 c (by omega) h3 (by omega),size_lit,show bc (⟨[UInt8.ofNat (224+c / 4096),UInt8.ofNat (128+c / 64 % 64),UInt8.ofNat (128+c % 64)].toArray⟩:ByteArray).data.toList=bspec 224 c 3 from by
            show bc [UInt8.ofNat (224+c / 4096),UInt8.ofNat (128+c / 64 % 64),UInt8.ofNat (128+c % 64)]=_
            rw [bc_cons _ _ (by omega)]
            unfold bspec
            simp [low]]
           exact hown
         · have hw:wd c=(4:Nat):=by rw [wr];unfold Lib.runeLen;repeat' split <;> omega
           refine (bytes_many c 4 240 w hw (by omega) (by omega) (by simp;omega)).mono ?_
           rintro e w' ⟨v,rfl,hown,hb⟩
           refine ⟨v,rfl,?_,hb⟩
           rw [enc4 c (by omega) (by omega),size_lit,show bc (⟨[UInt8.ofNat (240+c / 262144),UInt8.ofNat (128+c / 4096 % 64),UInt8.ofNat (128+c / 64 % 64),UInt8.ofNat (128+c % 64)].toArray⟩:ByteArray).data.toList=bspec 240 c 4 from by
            show bc [UInt8.ofNat (240+c / 262144),UInt8.ofNat (128+c / 4096 % 64),UInt8.ofNat (128+c / 64 % 64),UInt8.ofNat (128+c % 64)]=_
            rw [bc_cons _ _ (by omega)]
            unfold bspec
            simp [low]]
           exact hown
   · have hw:wd u=0:=wd_no (by omega) (by omega)
     refine (bytes_none u w hw).mono ?_
     rintro e w' ⟨rfl,rfl⟩
     rw [put_no (by omega) (by omega)]
     exact ⟨_,rfl,World.ownsRow_nil _ _ _ _,Below.refl _ _⟩
theorem conv_row (w:World) (base:Nat) (v:Value) (l:List UInt8) (h:w.ownsRow base 5 1 v l.length (bc l)):(convert 153 9 v).run Tryz.prog w = .ok (.string ⟨l.toArray⟩) w:=by
 obtain ⟨hl,h | ⟨g,cap,cur,rfl,hb,hg,hn,hm,hc,ht⟩⟩:=h
 · obtain ⟨rfl,h0⟩:=h
   obtain rfl:l=[]:=List.eq_nil_of_length_eq_zero h0
   rw [run_convert_bytes_string w 153 9 5 none 0 0 Tryz.underlying153 Tryz.underlying5 Tryz.underlying9]
   rfl
 · refine run_convert_bytes_back (P:=Tryz.prog) w 153 9 5 ⟨g,0,none⟩ cap l Tryz.underlying153 Tryz.underlying5 Tryz.underlying9 (fun j hj => ?_)
   have hx:(bc l)[j]? = some (.int .u8 (l[j].toNat:Int)):=by simp [bc,hj]
   have hown:w.ownsRow base 5 1 (.slice (some ⟨g,0,none⟩) l.length cap) l.length (bc l):=⟨hl,.inr ⟨g,cap,cur,rfl,hb,hg,hn,hm,hc,ht⟩⟩
   exact hown.cells rfl j _ hx
set_option maxHeartbeats 1000000 in
theorem rput_any (u:Int) (w:World):Calls Tryz.prog 116 #[.int .i64 u] w fun e w'=>e = .returned (.string (put u))∧Below w.heap.size w w':=by
 go_enter Tryz.func116,Tryz.ntmps116
 go_wp2_with (go_at_call 117;refine (bytes_any _ _).mono ?_;rintro e w' ⟨v,rfl,hown,hb⟩;have hcv:=conv_row w' _ v (put u).data.toList (by rw [←Lib.size_eq];exact hown))
 go_ret
 exact ⟨by simp,hb⟩
end Go.Proofs
