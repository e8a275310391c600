/-
  The document's First (layer 1), carried from stage 1: part 1.
-/
import Derived.RangeFuncNested
import Derived.RangeFuncBound
import Derived.RangeFuncCalls
import Derived.RangeFuncLeaves
import Derived.Shelf.Abstract
import Derived.Shelf.RegionOpen
import Derived.WalkKit
import Derived.WalkSpells
import Derived.WalkLawsBesides
import Derived.OwnWalkIn
import Derived.TacticsInMore
import Derived.LoopNIn
import Derived.LoopIn
import Derived.BigQuiet
import Derived.RegionIn
import Derived.Deep.QuietTactic
import Derived.Lib.OthersKept
import Derived.Lib.IndexBytes
import Derived.Lib.ConvBytes
import Derived.Maps.AppendAt
import Derived.Lib.SmallJoins
import Derived.Lib.AppendStr
import Derived.Shelf.Strings.Builder1
import Derived.Below
import Derived.Deep.RegionWith
import Derived.ArgAppend
import Derived.Laws.CopyOwn
import Derived.Laws.MakeOwn
import Derived.Test.YtknaoahokopplaaGreatDoorMgik
import Derived.Test.YtknaoahokopplaaGreatDoorMgkk
import Derived.Test.YtknaoahokopplaaGreatDoorMgbk
import Derived.Test.YtknaoahokopplaaGreatDoorMghk
namespace Go.Proofs
open Go.RowKit Go.Shelf
set_option maxRecDepth 100000
attribute [local go_sem] Oper.semAt_some
theorem fuel (s:ByteArray):∀ k k' q,s.size≤q+k→s.size≤q+k'→unitsN s k q=unitsN s k' q
 | 0,k',q,h,_=>by rw [unitsN_end s 0 q (by omega),unitsN_end s k' q (by omega)]
 | k+1,0,q,_,h=>by rw [unitsN_end s _ q (by omega),unitsN_end s 0 q (by omega)]
 | k+1,k'+1,q,h,h'=>by
  by_cases hq:q<s.size
  · have:=uw_pos s q
    rw [unitsN_step s k q hq,unitsN_step s k' q hq,fuel s k k' (q+uw s q) (by omega) (by omega)]
  · rw [unitsN_end s _ q hq,unitsN_end s _ q hq]
theorem w64b (b:UInt8):wrap64 (b.toNat:Int)=(b.toNat:Int):=by
 have:=b.toNat_lt
 rw [←IntWalk.i64_left];exact IntWalk.i64_in _ (by omega)
def flat (l:List (Nat × Nat)):List Value:=l.flatMap fun x=>[Value.int .i64 (x.1:Int),Value.int .i64 (x.2:Int)]
theorem info3:(Tryz.prog.info? 3).map (fun i=>(i.zero,i.size,i.bytes))=some (some (.int .i64 0),1,8):=by kernel_rfl
def Ints (w:World) (v:Value) (xs:List Int):Prop:=
 ∃ (a:Option Addr) (cap:Nat),v = .slice a xs.length cap∧(xs=[]∨∃ g o,a=some ⟨g,o,none⟩∧∀ j,j<xs.length→w.cell? ⟨g,o+j,none⟩=some (.int .i64 (xs[j]?.getD 0)))
theorem Ints.of_row {w:World} {base:Nat} {v:Value} {xs:List Int} (h:w.ownsRow base 3 1 v xs.length (xs.map (Value.int .i64))):Ints w v xs:=by
 rcases Joins.ownsRow_forms h with ⟨rfl,h0⟩ | ⟨g,cap,rfl⟩
 · obtain rfl:xs=[]:=List.eq_nil_of_length_eq_zero h0
   exact ⟨none,0,rfl,.inl rfl⟩
 · refine ⟨_,cap,rfl,.inr ⟨g,0,rfl,fun j hj => ?_⟩⟩
   rw [Nat.zero_add,h.cellAt j (by omega)]
   simp [hj]
def low (c:Nat):Nat→List UInt8
 | 0=>[]
 | k+1=>UInt8.ofNat (128+c / 64 ^ k % 64)::low c k
def bc (l:List UInt8):List Value:=l.map fun b => .int .u8 (b.toNat:Int)
theorem low_length (c k:Nat):(low c k).length=k:=by induction k with | zero=>rfl | succ k ih=>simp [low,ih]
theorem bc_low_succ (c k x:Nat) (h:x=c / 64 ^ k):[Value.int .u8 (128+(x:Int) % 64)]++bc (low c k)=bc (low c (k+1)):=by
 have e:low c (k+1)=UInt8.ofNat (128+c / 64 ^ k % 64)::low c k:=rfl
 have e2:bc (low c (k+1))=Value.int .u8 (((UInt8.ofNat (128+c / 64 ^ k % 64)).toNat:Nat):Int)::bc (low c k):=by rw [e];rfl
 rw [e2,b8 _ (by omega),←h,List.singleton_append]
 congr 1
def bspec (first:Int) (c n:Nat):List Value:=Value.int .u8 (first+((c / 64 ^ (n - 1):Nat):Int))::bc (low c (n - 1))
theorem bspec_of {first:Int} {c n k x:Nat} (hk:n - 1=k) (hx:x=c / 64 ^ k):[Value.int .u8 (first+(x:Int))]++bc (low c k)=bspec first c n:=by
 unfold bspec;rw [hk,hx];rfl
theorem info51:(Tryz.prog.info? 5).map (fun i=>(i.zero,i.size,i.bytes))=some (some (.int .u8 0),1,1):=by kernel_rfl
set_option maxHeartbeats 2000000 in
theorem bytes_many (c n:Nat) (first:Int) (w:World) (hw:wd c=n) (hn:(n=2∧first=192)∨(n=3∧first=224)∨(n=4∧first=240)) (hc:c<1114112) (hx:first+((c / 64 ^ (n - 1):Nat):Int)<256) :
 Calls Tryz.prog 204 #[.int .i64 c] w fun e w'=>∃ v,e = .returned v∧w'.ownsRow w.heap.size 5 1 v n (bspec first c n)∧Below w.heap.size w w':=by
 obtain ⟨i0,hi,hz0,hz1,hz2⟩:=info_parts info51
 have hwd:∀ W:World,Calls Tryz.prog 125 #[.int .i64 c] W fun e w'=>e = .returned (.int .i64 n)∧w'=W:=fun W=>by have:=rwidth_any c W;rw [hw] at this;exact this
 have HC:Hid (∀ W:World,Calls Tryz.prog 125 #[.int .i64 c] W fun e w'=>e = .returned (.int .i64 n)∧w'=W):=hwd
 have hn2:2≤n∧n≤4:=by omega
 obtain ⟨hn2,hn4⟩:=hn2
 have e0:((n:Int) == 0)=false:=by simp;omega
 have e1:((n:Int) == 1)=false:=by simp;omega
 have e2:decide (1114112≤(c:Int))=false:=by simp;omega
 clear hwd hw
 go_enter Tryz.func204,Tryz.ntmps204
 go_wp2_with (go_at_call 125;refine (HC.out _).mono ?_;rintro e w' ⟨rfl,rfl⟩)
 go_loopw [0,4,5] (fun vu vo vi wr=>∃ (k x g cap:Nat),vu = .int .i64 x∧vo = .slice (some ⟨g,0,none⟩) k cap∧vi = .int .i64 ((k:Int)+1)∧k+1≤n∧Hid (x=c / 64 ^ k)∧x<1114112∧wr.ownsRow w'.heap.size 5 1 (.slice (some ⟨g,0,none⟩) k cap) k (bc (low c k))∧Below w'.heap.size w' wr) (fun _ _ vi _=>n - (intOf vi).toNat)
 case atStart=>
  exact ⟨0,c,_,_,rfl,rfl,rfl,by omega,by simp [Hid],hc,World.ownsRow_lit _ #[] 0 (Nat.le_refl _) (by unfold maxLen;omega) rfl,(Below.refl _ _).alloc (Nat.le_refl _) _⟩
 case round=>
  obtain ⟨k,x,g,cap,rfl,rfl,rfl,hk,hX,hx0,hown,hb⟩:=hrel
  by_cases hlt:k+1<n
  · have hz:=hb.size
    have hxi:(x:Int)<1114112:=by omega
    have hlt':(k:Int)+1<(n:Int):=by omega
    have hlow:(bc (low c k)).length=k:=by simp [bc,low_length]
    go_wp2_with (at_builtin;go_must (refine wpList_append_own _ rfl _ _ 50 rfl w'.heap.size 5 i0 (.int .u8 0) 1 1 Tryz.underlying50 hi hz0 hz1 hz2 rfl (by decide) _ _ _ rfl (World.ownsRow_lit wr #[.int .u8 (128+(x:Int) % 64)] 1 hz (by unfold maxLen;omega) rfl) ⟨g,0,none⟩ k cap (bc (low c k)) rfl (by rw [hlow];omega) (fun j u hu=>(hown.alloc _).cells rfl j u hu) (by intro u hu;simp [bc] at hu;obtain ⟨b,_,rfl⟩:=hu;rfl) (by unfold maxLen;omega) (by omega) (by simp;omega) ?_);intro v' w1 hown' hgrow _)
    rw [show 1+k=k+1 by omega,bc_low_succ c k x hX.out] at hown'
    obtain ⟨g',cap',rfl⟩:=ownsRow_succ hown'
    have hdiv:x / 64=c / 64 ^ (k+1):=by rw [hX.out,Nat.div_div_eq_div_mul,Nat.pow_succ]
    exact ⟨⟨k+1,x / 64,g',cap',by go_num,rfl,by go_num,by omega,hdiv,by omega,hown',(hb.alloc hz _).grown hgrow (by simp;omega) (fun j e=>by cases e;exact hz)⟩,by simp [intOf];omega⟩
  · have hkn:k+1=n:=by omega
    have hz:=hb.size
    have hlow:(bc (low c k)).length=k:=by simp [bc,low_length]
    have hk1:n - 1=k:=by omega
    rw [hk1,←hX.out] at hx
    have HK:Hid (n - 1=k):=hk1
    clear hk1
    have hge:¬ ((k:Int)+1<(n:Int)):=by omega
    rcases hn with ⟨rfl,rfl⟩ | ⟨rfl,rfl⟩ | ⟨rfl,rfl⟩
    · have hlit:=World.ownsRow_lit (base:=w'.heap.size) (e:=5) (size:=1) (wr.alloc (.cells #[.int .i64 0,.int .i64 0,.int .i64 192,.int .i64 224,.int .i64 240] 3)) #[.int .u8 (192+(x:Int))] 1 (by rw [World.size_alloc];omega) (by unfold maxLen;omega) rfl
      rw [World.size_alloc] at hlit
      go_wp2_with (at_builtin;go_must (refine wpList_append_own _ rfl _ _ 50 rfl w'.heap.size 5 i0 (.int .u8 0) 1 1 Tryz.underlying50 hi hz0 hz1 hz2 rfl (by decide) _ _ _ rfl hlit ⟨g,0,none⟩ k cap (bc (low c k)) rfl (by rw [hlow];omega) (fun j u hu=>((hown.alloc _).alloc _).cells rfl j u hu) (by intro u hu;simp [bc] at hu;obtain ⟨b,_,rfl⟩:=hu;rfl) (by unfold maxLen;omega) (by omega) (by rw [World.size_alloc,World.size_alloc];omega) ?_);intro v' w1 hown' hgrow _)
      go_ret
      rw [show 1+k=2 by omega] at hown'
      have hsp:=bspec_of (first:=192) HK.out hX.out
      rw [←hsp]
      exact ⟨v',rfl,hown',((hb.alloc hz _).alloc (by rw [World.size_alloc];omega) _).grown hgrow (by rw [World.size_alloc,World.size_alloc];omega) (fun j e=>by cases e;show _≤wr.heap.size+1;omega)⟩
    · have hlit:=World.ownsRow_lit (base:=w'.heap.size) (e:=5) (size:=1) (wr.alloc (.cells #[.int .i64 0,.int .i64 0,.int .i64 192,.int .i64 224,.int .i64 240] 3)) #[.int .u8 (224+(x:Int))] 1 (by rw [World.size_alloc];omega) (by unfold maxLen;omega) rfl
      rw [World.size_alloc] at hlit
      go_wp2_with (at_builtin;go_must (refine wpList_append_own _ rfl _ _ 50 rfl w'.heap.size 5 i0 (.int .u8 0) 1 1 Tryz.underlying50 hi hz0 hz1 hz2 rfl (by decide) _ _ _ rfl hlit ⟨g,0,none⟩ k cap (bc (low c k)) rfl (by rw [hlow];omega) (fun j u hu=>((hown.alloc _).alloc _).cells rfl j u hu) (by intro u hu;simp [bc] at hu;obtain ⟨b,_,rfl⟩:=hu;rfl) (by unfold maxLen;omega) (by omega) (by rw [World.size_alloc,World.size_alloc];omega) ?_);intro v' w1 hown' hgrow _)
      go_ret
      rw [show 1+k=3 by omega] at hown'
      have hsp:=bspec_of (first:=224) HK.out hX.out
      rw [←hsp]
      exact ⟨v',rfl,hown',((hb.alloc hz _).alloc (by rw [World.size_alloc];omega) _).grown hgrow (by rw [World.size_alloc,World.size_alloc];omega) (fun j e=>by cases e;show _≤wr.heap.size+1;omega)⟩
    · have hlit:=World.ownsRow_lit (base:=w'.heap.size) (e:=5) (size:=1) (wr.alloc (.cells #[.int .i64 0,.int .i64 0,.int .i64 192,.int .i64 224,.int .i64 240] 3)) #[.int .u8 (240+(x:Int))] 1 (by rw [World.size_alloc];omega) (by unfold maxLen;omega) rfl
      rw [World.size_alloc] at hlit
      go_wp2_with (at_builtin;go_must (refine wpList_append_own _ rfl _ _ 50 rfl w'.heap.size 5 i0 (.int .u8 0) 1 1 Tryz.underlying50 hi hz0 hz1 hz2 rfl (by decide) _ _ _ rfl hlit ⟨g,0,none⟩ k cap (bc (low c k)) rfl (by rw [hlow];omega) (fun j u hu=>((hown.alloc _).alloc _).cells rfl j u hu) (by intro u hu;simp [bc] at hu;obtain ⟨b,_,rfl⟩:=hu;rfl) (by unfold maxLen;omega) (by omega) (by rw [World.size_alloc,World.size_alloc];omega) ?_);intro v' w1 hown' hgrow _)
      go_ret
      rw [show 1+k=4 by omega] at hown'
      have hsp:=bspec_of (first:=240) HK.out hX.out
      rw [←hsp]
      exact ⟨v',rfl,hown',((hb.alloc hz _).alloc (by rw [World.size_alloc];omega) _).grown hgrow (by rw [World.size_alloc,World.size_alloc];omega) (fun j e=>by cases e;show _≤wr.heap.size+1;omega)⟩
set_option maxHeartbeats 1000000 in
theorem bytes_none (u:Int) (w:World) (hw:wd u=0):Calls Tryz.prog 204 #[.int .i64 u] w fun e w'=>e = .returned (.slice none 0 0)∧w'=w:=by
 have hwd:∀ W:World,Calls Tryz.prog 125 #[.int .i64 u] W fun e w'=>e = .returned (.int .i64 0)∧w'=W:=fun W=>by have:=rwidth_any u W;rw [hw] at this;exact this
 have HC:Hid (∀ W:World,Calls Tryz.prog 125 #[.int .i64 u] W fun e w'=>e = .returned (.int .i64 0)∧w'=W):=hwd
 clear hwd hw
 go_enter Tryz.func204,Tryz.ntmps204
 go_wp2_with (go_at_call 125;refine (HC.out _).mono ?_;rintro e w' ⟨rfl,rfl⟩)
 go_ret
 exact ⟨rfl,rfl⟩
set_option maxHeartbeats 1000000 in
theorem bytes_stray (u:Int) (w:World) (h0:1114240≤u) (h1:u≤1114367):Calls Tryz.prog 204 #[.int .i64 u] w fun e w'=>e = .returned (.slice (some ⟨w.heap.size,0,none⟩) 1 1)∧w'=w.alloc (.cells #[.int .u8 (u - 1114112)] 5):=by
 have hwd:∀ W:World,Calls Tryz.prog 125 #[.int .i64 u] W fun e w'=>e = .returned (.int .i64 1)∧w'=W:=fun W=>by have:=rwidth_any u W;rw [wd_stray ⟨h0,h1⟩] at this;exact this
 have HC:Hid (∀ W:World,Calls Tryz.prog 125 #[.int .i64 u] W fun e w'=>e = .returned (.int .i64 1)∧w'=W):=hwd
 clear hwd
 go_enter Tryz.func204,Tryz.ntmps204
 go_wp2_with (go_at_call 125;refine (HC.out _).mono ?_;rintro e w' ⟨rfl,rfl⟩)
 go_ret
 exact ⟨rfl,rfl⟩
set_option maxHeartbeats 1000000 in
theorem bytes_ascii (u:Int) (w:World) (h0:0≤u) (h1:u≤127):Calls Tryz.prog 204 #[.int .i64 u] w fun e w'=>e = .returned (.slice (some ⟨w.heap.size,0,none⟩) 1 1)∧w'=w.alloc (.cells #[.int .u8 u] 5):=by
 have hwd:∀ W:World,Calls Tryz.prog 125 #[.int .i64 u] W fun e w'=>e = .returned (.int .i64 1)∧w'=W:=fun W=>by have:=rwidth_any u W;rw [show wd u=1 by unfold wd Lib.runeLen;repeat' split <;> omega] at this;exact this
 have HC:Hid (∀ W:World,Calls Tryz.prog 125 #[.int .i64 u] W fun e w'=>e = .returned (.int .i64 1)∧w'=W):=hwd
 clear hwd
 go_enter Tryz.func204,Tryz.ntmps204
 go_wp2_with (go_at_call 125;refine (HC.out _).mono ?_;rintro e w' ⟨rfl,rfl⟩)
 go_ret
 exact ⟨rfl,rfl⟩
theorem bc_cons (n:Nat) (l:List UInt8) (h:n<256):bc (UInt8.ofNat n::l)=Value.int .u8 (n:Int)::bc l:=by
 show Value.int .u8 (((UInt8.ofNat n).toNat:Nat):Int)::bc l=_
 rw [b8 n h]
theorem bytes_any (u:Int) (w:World):Calls Tryz.prog 204 #[.int .i64 u] w fun e w'=>∃ v,e = .returned v∧w'.ownsRow w.heap.size 5 1 v (put u).size (bc (put u).data.toList)∧Below w.heap.size w w':=by
 by_cases a:1114240≤u∧u≤1114367
 · refine (bytes_stray u w a.1 a.2).mono ?_
   rintro e w' ⟨rfl,rfl⟩
   rw [put_stray a]
   have hl:=World.ownsRow_lit (base:=w.heap.size) (e:=5) (size:=1) w #[.int .u8 (u - 1114112)] 1 (Nat.le_refl _) (by unfold maxLen;omega) rfl
   refine ⟨_,rfl,?_,(Below.refl _ _).alloc (Nat.le_refl _) _⟩
   rw [show bc (⟨#[UInt8.ofNat (u - 1114112).toNat]⟩:ByteArray).data.toList=[Value.int .u8 (u - 1114112)] from by
    rw [show (⟨#[UInt8.ofNat (u - 1114112).toNat]⟩:ByteArray).data.toList=[UInt8.ofNat (u - 1114112).toNat] from rfl,bc_cons _ _ (by omega),show (((u - 1114112).toNat:Nat):Int)=u - 1114112 by omega];rfl]
   exact hl
 · by_cases b:(0≤u∧u<55296)∨(57343<u∧u≤1114111)
   · rw [put_rune b]
     obtain ⟨c,rfl⟩:∃ c:Nat,u=c:=⟨u.toNat,by omega⟩
     have wr:=wd_rune b
     by_cases h1:c<128
     · refine (bytes_ascii c w (by omega) (by omega)).mono ?_
       rintro e w' ⟨rfl,rfl⟩
       have hl:=World.ownsRow_lit (base:=w.heap.size) (e:=5) (size:=1) w #[.int .u8 (c:Int)] 1 (Nat.le_refl _) (by unfold maxLen;omega) rfl
       refine ⟨_,rfl,?_,(Below.refl _ _).alloc (Nat.le_refl _) _⟩
       rw [enc1 c h1,size_lit,show bc (⟨[UInt8.ofNat c].toArray⟩:ByteArray).data.toList=[Value.int .u8 (c:Int)] from bc_cons c [] (by omega)]
       exact hl
     · by_cases h2:c<2048
       · have hw:wd c=(2:Nat):=by rw [wr];unfold Lib.runeLen;repeat' split <;> omega
         refine (bytes_many c 2 192 w hw (by omega) (by omega) (by simp;omega)).mono ?_
         rintro e w' ⟨v,rfl,hown,hb⟩
         refine ⟨v,rfl,?_,hb⟩
         rw [enc2 c (by omega) h2,size_lit,show bc (⟨[UInt8.ofNat (192+c / 64),UInt8.ofNat (128+c % 64)].toArray⟩:ByteArray).data.toList=bspec 192 c 2 from by
          show bc [UInt8.ofNat (192+c / 64),UInt8.ofNat (128+c % 64)]=_
          rw [bc_cons _ _ (by omega)]
          unfold bspec
          simp [low]]
         exact hown
       · by_cases h3:c<65536
         · have hw:wd c=(3:Nat):=by rw [wr];unfold Lib.runeLen;repeat' split <;> omega
           refine (bytes_many c 3 224 w hw (by omega) (by omega) (by simp;omega)).mono ?_
           rintro e w' ⟨v,rfl,hown,hb⟩
           refine ⟨v,rfl,?_,hb⟩
           rw [enc3 c (by omega) h3 (by omega),size_lit,show bc (⟨[UInt8.ofNat (224+c / 4096),UInt8.ofNat (128+c / 64 % 64),UInt8.ofNat (128+c % 64)].toArray⟩:ByteArray).data.toList=bspec 224 c 3 from by
            show bc [UInt8.ofNat (224+c / 4096),UInt8.ofNat (128+c / 64 % 64),UInt8.ofNat (128+c % 64)]=_
            rw [bc_cons _ _ (by omega)]
            unfold bspec
            simp [low]]
           exact hown
         · have hw:wd c=(4:Nat):=by rw [wr];unfold Lib.runeLen;repeat' split <;> omega
           refine (bytes_many c 4 240 w hw (by omega) (by omega) (by simp;omega)).mono ?_
           rintro e w' ⟨v,rfl,hown,hb⟩
           refine ⟨v,rfl,?_,hb⟩
           rw [enc4 c (by omega) (by omega),size_lit,show bc (⟨[UInt8.ofNat (240+c / 262144),UInt8.ofNat (128+c / 4096 % 64),UInt8.ofNat (128+c / 64 % 64),UInt8.ofNat (128+c % 64)].toArray⟩:ByteArray).data.toList=bspec 240 c 4 from by
            show bc [UInt8.ofNat (240+c / 262144),UInt8.ofNat (128+c / 4096 % 64),UInt8.ofNat (128+c / 64 % 64),UInt8.ofNat (128+c % 64)]=_
            rw [bc_cons _ _ (by omega)]
            unfold bspec
            simp [low]]
           exact hown
   · have hw:wd u=0:=wd_no (by omega) (by omega)
     refine (bytes_none u w hw).mono ?_
     rintro e w' ⟨rfl,rfl⟩
     rw [put_no (by omega) (by omega)]
     exact ⟨_,rfl,World.ownsRow_nil _ _ _ _,Below.refl _ _⟩
theorem conv_row (w:World) (base:Nat) (v:Value) (l:List UInt8) (h:w.ownsRow base 5 1 v l.length (bc l)):(convert 50 9 v).run Tryz.prog w = .ok (.string ⟨l.toArray⟩) w:=by
 obtain ⟨hl,h | ⟨g,cap,cur,rfl,hb,hg,hn,hm,hc,ht⟩⟩:=h
 · obtain ⟨rfl,h0⟩:=h
   obtain rfl:l=[]:=List.eq_nil_of_length_eq_zero h0
   rw [run_convert_bytes_string w 50 9 5 none 0 0 Tryz.underlying50 Tryz.underlying5 Tryz.underlying9]
   rfl
 · refine run_convert_bytes_back (P:=Tryz.prog) w 50 9 5 ⟨g,0,none⟩ cap l Tryz.underlying50 Tryz.underlying5 Tryz.underlying9 (fun j hj => ?_)
   have hx:(bc l)[j]? = some (.int .u8 (l[j].toNat:Int)):=by simp [bc,hj]
   have hown:w.ownsRow base 5 1 (.slice (some ⟨g,0,none⟩) l.length cap) l.length (bc l):=⟨hl,.inr ⟨g,cap,cur,rfl,hb,hg,hn,hm,hc,ht⟩⟩
   exact hown.cells rfl j _ hx
set_option maxHeartbeats 1000000 in
theorem rput_any (u:Int) (w:World):Calls Tryz.prog 193 #[.int .i64 u] w fun e w'=>e = .returned (.string (put u))∧Below w.heap.size w w':=by
 go_enter Tryz.func193,Tryz.ntmps193
 go_wp2_with (go_at_call 204;refine (bytes_any _ _).mono ?_;rintro e w' ⟨v,rfl,hown,hb⟩;have hcv:=conv_row w' _ v (put u).data.toList (by rw [←Lib.size_eq];exact hown))
 go_ret
 exact ⟨by simp,hb⟩
theorem mixed:Tryz.prog.follows .mixedOrders=true:=by kernel_rfl
structure BelowOf (w:World) where
 world:World
 below:Below w.heap.size w world
instance (w:World):Inhabited (BelowOf w):=⟨⟨w,Below.refl _ w⟩⟩
theorem below_drew (w:World) (n:Nat):Below w.heap.size w (w.drewN n):=⟨rfl,rfl,rfl,Nat.le_refl _,fun _ _=>rfl⟩
theorem wp_region_quiet_below {P:Program} {id:Nat} {Q:Exit→Act→World→Prop} {a:Act} {w:World} {l:List Oper} (hm:P.follows .mixedOrders=true) (hB:Region.lexB .any l.toArray=true)
 (h:wpQuiet P l.toArray (fun w'=>∃ p:BelowOf w,w'=p.world) (fun a'=>∀ w',(∃ p:BelowOf w,w'=p.world)→Q .normal a' w') l a):(Code.region id l.toArray true).wp P Q a w:=
 wp_region_quiet (C:=fun w'=>∃ p:BelowOf w,w'=p.world) hm hB ⟨⟨w.drewN 1,below_drew w 1⟩,rfl⟩ (by simpa using h)
theorem below_of {P:Program} {f:FuncId} {args:Array Value} {w:World} {p:BelowOf w} {v:Value}
 (h:Calls P f args p.world fun e w'=>e = .returned v∧Below p.world.heap.size p.world w'):Calls P f args p.world fun e w''=>e = .returned v∧∃ q:BelowOf w,w''=q.world:=
 h.mono fun _ w' ⟨he,hb⟩=>⟨he,⟨w',p.below.trans (hb.mono p.below.size)⟩,rfl⟩
theorem below_same {P:Program} {f:FuncId} {args:Array Value} {w:World} {p:BelowOf w} {v:Value}
 (h:Calls P f args p.world fun e w'=>e = .returned v∧w'=p.world):Calls P f args p.world fun e w''=>e = .returned v∧∃ q:BelowOf w,w''=q.world:=
 h.mono fun _ _ ⟨he,hb⟩=>⟨he,p,hb⟩
end Go.Proofs
