/-
  The document's First (layer 1), carried from stage 1: part 3.
-/
import Derived.RangeFuncNested
import Derived.RangeFuncBound
import Derived.RangeFuncCalls
import Derived.RangeFuncLeaves
import Derived.Shelf.Abstract
import Derived.Shelf.RegionOpen
import Derived.WalkKit
import Derived.WalkSpells
import Derived.WalkLawsBesides
import Derived.OwnWalkIn
import Derived.TacticsInMore
import Derived.LoopNIn
import Derived.LoopIn
import Derived.BigQuiet
import Derived.RegionIn
import Derived.Deep.QuietTactic
import Derived.Lib.OthersKept
import Derived.Lib.IndexBytes
import Derived.Lib.ConvBytes
import Derived.Maps.AppendAt
import Derived.Lib.SmallJoins
import Derived.Lib.AppendStr
import Derived.Shelf.Strings.Builder1
import Derived.Below
import Derived.Deep.RegionWith
import Derived.ArgAppend
import Derived.Laws.CopyOwn
import Derived.Laws.MakeOwn
import Derived.Test.YtknaoahokopplaaGreatDoorR2k
namespace Go.Proofs
open Go.RowKit Go.Shelf
set_option maxRecDepth 100000
attribute [local go_sem] Oper.semAt_some
theorem step_val (x:Nat) (b:UInt8) (h:x<1048576):wrap64 ((x:Int)*64+(wrap64 (b.toNat:Int)).tmod 64)=((x*64+b.toNat % 64:Nat):Int):=by
 rw [w64b,show ((b.toNat:Int)).tmod 64=((b.toNat % 64:Nat):Int) from rfl]
 have:=Nat.mod_lt b.toNat (show 64>0 by omega)
 rw [show (x:Int)*64+((b.toNat % 64:Nat):Int)=((x*64+b.toNat % 64:Nat):Int) by push_cast;rfl]
 exact IntWalk.wrap64_in _ (by omega)
theorem bstr_ne {a b:ByteArray} (h:a≠b):(a.toList == b.toList)=false:=by
 rw [ByteArray.toList_eq,ByteArray.toList_eq]
 by_cases e:a.data.toList=b.data.toList
 · exact absurd (Go.WideShapes.bytes_inj e) h
 · simpa using e
theorem bgs_no (s:ByteArray) (p k n:Nat) (hp:p+n≤s.size) (h:tst s p n=false):bgs s p (k+1) n=bgs s p k (n+1):=by
 rw [bgs,if_pos hp,h];rfl
set_option maxHeartbeats 4000000 in
theorem begins_any (s:ByteArray) (p:Nat) (w:World) (hp:p<s.size) (hs:s.size≤4398046511104) :
 Calls Tryz.prog 175 #[.string s,.int .i64 p] w fun e w'=>e = .returned (.int .i64 (beginsU s p))∧Below w.heap.size w w':=by
 have hpi:(p:Int)<(s.size:Int):=by omega
 have hsi:(s.size:Int)≤4398046511104:=by omega
 go_enter Tryz.func175,Tryz.ntmps175
 go_wp2_with fail
 go_loopw [5,6,7] (fun vn _ _ wr=>∃ (n:Nat),vn = .int .i64 n∧1≤n∧n≤5∧Hid (beginsU s p=bgs s p (5 - n) n)∧Below w.heap.size w wr) (fun vn _ _ _=>5 - (intOf vn).toNat)
 case atStart=>
  exact ⟨1,rfl,by omega,by omega,rfl,Below.refl _ _⟩
 case round=>
  obtain ⟨n,rfl,h1,h5,hB,hb⟩:=hrel
  have HB0:Hid (Below w.heap.size w wr):=hb
  clear hb
  by_cases h4:n=5
  · subst h4
    go_wp2_with fail
    go_ret
    exact ⟨by rw [hB.out];rfl,HB0.out⟩
  · by_cases hle:p+n≤s.size
    · rcases (show n=1∨n=2∨n=3∨n=4 by omega) with rfl | rfl | rfl | rfl
      ·
       rw [show ((1:Nat):Int)=(1:Int) from rfl]
       go_wp2_with fail
       go_loopw [6,7] (fun vu vi wq=>∃ (k x:Nat),vu = .int .i64 x∧vi = .int .i64 ((k:Int)+1)∧k+1≤1∧x<67108864∧(k≤2→x<1048576)∧(k≤1→x<16384)∧(k=0→x<256)∧Hid (x=acc s p (s.get! p).toNat k)∧Below w.heap.size w wq) (fun _ vi _=>1 - (intOf vi).toNat)
       case atStart=>
        have hm:=(s.get! p).toNat_lt
        have hm2:=Nat.mod_le (s.get! p).toNat (md 1)
        exact ⟨0,(s.get! p).toNat,by rw [w64b,←get_bang s p hp] <;> rfl,rfl,by omega,by omega,by omega,by omega,by omega,rfl,HB0.out⟩
       case round=>
        clear HB0
        obtain ⟨k,x,rfl,rfl,hk,hx,hx2,hx1,hx0,hX,hb⟩:=hrel
        have HB1:Hid (Below w.heap.size w wr):=hb
        clear hb
        have hxi:(x:Int)<67108864:=by omega
        by_cases hlt:k+1<1
        · as_aux_lemma=>
           obtain ⟨q,hq⟩:∃ q:Nat,p+(k+1)=q:=⟨_,rfl⟩
           have hqi:(p:Int)+((k:Int)+1)=(q:Int):=by omega
           have hqs:(q:Int)<(s.size:Int):=by omega
           have HQ:Hid (p+(k+1)=q):=hq
           clear hq
           have hxj:(x:Int)<1048576:=by omega
           have hlt':(k:Int)+1<1:=by omega
           omega
        · have hk1:k=0:=by omega
          subst hk1
          have HN:Hid (num s p 1=x):=hX.out.symm
          have hlei:(p:Int)+1≤(s.size:Int):=by omega
          clear hX hlt hx2 hx1 hx0 hk
          cases hq:tst s p 1 with
          | true=>
           as_aux_lemma=>
            have hq1:wd x=1∧put x=s.extract p (p+1):=by unfold tst at hq;rw [HN.out] at hq;exact of_decide_eq_true hq
            have HR:Hid (beginsU s p=x):=by show beginsU s p=x;rw [hB.out,show 5 - 1=(4 - 1)+1 by rfl,bgs,if_pos hle,if_pos hq,HN.out]
            have cW:Hid (∀ W:World,Calls Tryz.prog 125 #[.int .i64 x] W fun e w'=>e = .returned (.int .i64 1)∧w'=W):=fun W=>by have:=rwidth_any x W;rw [hq1.1] at this;exact this
            have cP:Hid (∀ W:World,Calls Tryz.prog 193 #[.int .i64 x] W fun e w'=>e = .returned (.string (s.extract p (p+1)))∧Below W.heap.size W w'):=fun W=>by have:=rput_any x W;rw [hq1.2] at this;exact this
            clear hq hq1 hB HN
            go_wp2_with fail
            refine wp_region_quiet_below mixed (by kernel_rfl) ?_
            repeat (go_big_quiet_step ((first | (go_at_call 125;exact below_same (cW.out _)) | (go_at_call 193;exact below_of (cP.out _)))))
            refine wpQuiet_nil ?_
            intro _ hw'
            obtain ⟨⟨w2,hb2⟩,hw''⟩:=hw'
            subst hw''
            go_wp2_with fail
            go_ret
            exact ⟨by rw [HR.out];rfl,HB1.out.trans (hb2.mono HB1.out.size)⟩
          | false=>
           as_aux_lemma=>
            have HR:Hid (beginsU s p=bgs s p (5 - (1+1)) (1+1)):=hB.out.trans (bgs_no s p (4 - 1) 1 hle hq)
            by_cases hw:wd x=1
            · have hne:put x≠s.extract p (p+1):=fun h=>by unfold tst at hq;rw [HN.out] at hq;exact absurd ⟨hw,h⟩ (of_decide_eq_false hq)
              have cW:Hid (∀ W:World,Calls Tryz.prog 125 #[.int .i64 x] W fun e w'=>e = .returned (.int .i64 1)∧w'=W):=fun W=>by have:=rwidth_any x W;rw [hw] at this;exact this
              obtain ⟨z,hz⟩:∃ z,put x=z:=⟨_,rfl⟩
              have cP:Hid (∀ W:World,Calls Tryz.prog 193 #[.int .i64 x] W fun e w'=>e = .returned (.string z)∧Below W.heap.size W w'):=fun W=>by have:=rput_any x W;rw [hz] at this;exact this
              rw [hz] at hne
              have hzn:=bstr_ne hne
              clear hq hw hz hne hB HN
              go_wp2_with fail
              refine wp_region_quiet_below mixed (by kernel_rfl) ?_
              repeat (go_big_quiet_step ((first | (go_at_call 125;exact below_same (cW.out _)) | (go_at_call 193;exact below_of (cP.out _)))))
              refine wpQuiet_nil ?_
              intro _ hw'
              obtain ⟨⟨w2,hb2⟩,hw''⟩:=hw'
              subst hw''
              go_wp2_with fail
              exact ⟨⟨1+1,rfl,by omega,by omega,HR,HB1.out.trans (hb2.mono HB1.out.size)⟩,by simp [intOf]⟩
            · obtain ⟨d,hd⟩:∃ d,wd x=d:=⟨_,rfl⟩
              have cW:Hid (∀ W:World,Calls Tryz.prog 125 #[.int .i64 x] W fun e w'=>e = .returned (.int .i64 d)∧w'=W):=fun W=>by have:=rwidth_any x W;rw [hd] at this;exact this
              rw [hd] at hw
              have hdn:(d == 1)=false:=by simpa using hw
              clear hq hw hd hB HN
              go_wp2_with fail
              refine wp_region_quiet_below mixed (by kernel_rfl) ?_
              repeat (go_big_quiet_step ((go_at_call 125;exact below_same (cW.out _))))
              refine wpQuiet_nil ?_
              intro _ hw'
              obtain ⟨⟨w2,hb2⟩,hw''⟩:=hw'
              subst hw''
              go_wp2_with fail
              exact ⟨⟨1+1,rfl,by omega,by omega,HR,HB1.out.trans (hb2.mono HB1.out.size)⟩,by simp [intOf]⟩
      ·
       rw [show ((2:Nat):Int)=(2:Int) from rfl]
       go_wp2_with fail
       go_loopw [6,7] (fun vu vi wq=>∃ (k x:Nat),vu = .int .i64 x∧vi = .int .i64 ((k:Int)+1)∧k+1≤2∧x<67108864∧(k≤2→x<1048576)∧(k≤1→x<16384)∧(k=0→x<256)∧Hid (x=acc s p ((s.get! p).toNat % md 2) k)∧Below w.heap.size w wq) (fun _ vi _=>2 - (intOf vi).toNat)
       case atStart=>
        have hm:=(s.get! p).toNat_lt
        have hm2:=Nat.mod_le (s.get! p).toNat (md 2)
        exact ⟨0,((s.get! p).toNat % md 2),by rw [w64b,←get_bang s p hp] <;> rfl,rfl,by omega,by omega,by omega,by omega,by omega,rfl,(HB0.out.alloc HB0.out.size _)⟩
       case round=>
        clear HB0
        obtain ⟨k,x,rfl,rfl,hk,hx,hx2,hx1,hx0,hX,hb⟩:=hrel
        have HB1:Hid (Below w.heap.size w wr):=hb
        clear hb
        have hxi:(x:Int)<67108864:=by omega
        by_cases hlt:k+1<2
        · as_aux_lemma=>
           obtain ⟨q,hq⟩:∃ q:Nat,p+(k+1)=q:=⟨_,rfl⟩
           have hqi:(p:Int)+((k:Int)+1)=(q:Int):=by omega
           have hqs:(q:Int)<(s.size:Int):=by omega
           have HQ:Hid (p+(k+1)=q):=hq
           clear hq
           have hxj:(x:Int)<1048576:=by omega
           have hlt':(k:Int)+1<2:=by omega
           go_wp2_with fail
           refine ⟨⟨k+1,x*64+s[q].toNat % 64,by rw [step_val x s[q] (by omega)],by rw [show ((k:Int)+1+1)=(((k+1:Nat):Int)+1) by omega],by omega,by omega,by omega,by omega,by omega,?_,HB1.out⟩,by simp [intOf];omega⟩
           show x*64+s[q].toNat % 64=acc s p _ k*64+(s.get! (p+(k+1))).toNat % 64
           rw [←hX.out,HQ.out,get_bang s q (by omega)]
        · have hk1:k=1:=by omega
          subst hk1
          have HN:Hid (num s p 2=x):=hX.out.symm
          have hlei:(p:Int)+2≤(s.size:Int):=by omega
          clear hX hlt hx2 hx1 hx0 hk
          cases hq:tst s p 2 with
          | true=>
           as_aux_lemma=>
            have hq1:wd x=2∧put x=s.extract p (p+2):=by unfold tst at hq;rw [HN.out] at hq;exact of_decide_eq_true hq
            have HR:Hid (beginsU s p=x):=by show beginsU s p=x;rw [hB.out,show 5 - 2=(4 - 2)+1 by rfl,bgs,if_pos hle,if_pos hq,HN.out]
            have cW:Hid (∀ W:World,Calls Tryz.prog 125 #[.int .i64 x] W fun e w'=>e = .returned (.int .i64 2)∧w'=W):=fun W=>by have:=rwidth_any x W;rw [hq1.1] at this;exact this
            have cP:Hid (∀ W:World,Calls Tryz.prog 193 #[.int .i64 x] W fun e w'=>e = .returned (.string (s.extract p (p+2)))∧Below W.heap.size W w'):=fun W=>by have:=rput_any x W;rw [hq1.2] at this;exact this
            clear hq hq1 hB HN
            go_wp2_with fail
            refine wp_region_quiet_below mixed (by kernel_rfl) ?_
            repeat (go_big_quiet_step ((first | (go_at_call 125;exact below_same (cW.out _)) | (go_at_call 193;exact below_of (cP.out _)))))
            refine wpQuiet_nil ?_
            intro _ hw'
            obtain ⟨⟨w2,hb2⟩,hw''⟩:=hw'
            subst hw''
            go_wp2_with fail
            go_ret
            exact ⟨by rw [HR.out];rfl,HB1.out.trans (hb2.mono HB1.out.size)⟩
          | false=>
           as_aux_lemma=>
            have HR:Hid (beginsU s p=bgs s p (5 - (2+1)) (2+1)):=hB.out.trans (bgs_no s p (4 - 2) 2 hle hq)
            by_cases hw:wd x=2
            · have hne:put x≠s.extract p (p+2):=fun h=>by unfold tst at hq;rw [HN.out] at hq;exact absurd ⟨hw,h⟩ (of_decide_eq_false hq)
              have cW:Hid (∀ W:World,Calls Tryz.prog 125 #[.int .i64 x] W fun e w'=>e = .returned (.int .i64 2)∧w'=W):=fun W=>by have:=rwidth_any x W;rw [hw] at this;exact this
              obtain ⟨z,hz⟩:∃ z,put x=z:=⟨_,rfl⟩
              have cP:Hid (∀ W:World,Calls Tryz.prog 193 #[.int .i64 x] W fun e w'=>e = .returned (.string z)∧Below W.heap.size W w'):=fun W=>by have:=rput_any x W;rw [hz] at this;exact this
              rw [hz] at hne
              have hzn:=bstr_ne hne
              clear hq hw hz hne hB HN
              go_wp2_with fail
              refine wp_region_quiet_below mixed (by kernel_rfl) ?_
              repeat (go_big_quiet_step ((first | (go_at_call 125;exact below_same (cW.out _)) | (go_at_call 193;exact below_of (cP.out _)))))
              refine wpQuiet_nil ?_
              intro _ hw'
              obtain ⟨⟨w2,hb2⟩,hw''⟩:=hw'
              subst hw''
              go_wp2_with fail
              exact ⟨⟨2+1,rfl,by omega,by omega,HR,HB1.out.trans (hb2.mono HB1.out.size)⟩,by simp [intOf]⟩
            · obtain ⟨d,hd⟩:∃ d,wd x=d:=⟨_,rfl⟩
              have cW:Hid (∀ W:World,Calls Tryz.prog 125 #[.int .i64 x] W fun e w'=>e = .returned (.int .i64 d)∧w'=W):=fun W=>by have:=rwidth_any x W;rw [hd] at this;exact this
              rw [hd] at hw
              have hdn:(d == 2)=false:=by simpa using hw
              clear hq hw hd hB HN
              go_wp2_with fail
              refine wp_region_quiet_below mixed (by kernel_rfl) ?_
              repeat (go_big_quiet_step ((go_at_call 125;exact below_same (cW.out _))))
              refine wpQuiet_nil ?_
              intro _ hw'
              obtain ⟨⟨w2,hb2⟩,hw''⟩:=hw'
              subst hw''
              go_wp2_with fail
              exact ⟨⟨2+1,rfl,by omega,by omega,HR,HB1.out.trans (hb2.mono HB1.out.size)⟩,by simp [intOf]⟩
      ·
       rw [show ((3:Nat):Int)=(3:Int) from rfl]
       go_wp2_with fail
       go_loopw [6,7] (fun vu vi wq=>∃ (k x:Nat),vu = .int .i64 x∧vi = .int .i64 ((k:Int)+1)∧k+1≤3∧x<67108864∧(k≤2→x<1048576)∧(k≤1→x<16384)∧(k=0→x<256)∧Hid (x=acc s p ((s.get! p).toNat % md 3) k)∧Below w.heap.size w wq) (fun _ vi _=>3 - (intOf vi).toNat)
       case atStart=>
        have hm:=(s.get! p).toNat_lt
        have hm2:=Nat.mod_le (s.get! p).toNat (md 3)
        exact ⟨0,((s.get! p).toNat % md 3),by rw [w64b,←get_bang s p hp] <;> rfl,rfl,by omega,by omega,by omega,by omega,by omega,rfl,(HB0.out.alloc HB0.out.size _)⟩
       case round=>
        clear HB0
        obtain ⟨k,x,rfl,rfl,hk,hx,hx2,hx1,hx0,hX,hb⟩:=hrel
        have HB1:Hid (Below w.heap.size w wr):=hb
        clear hb
        have hxi:(x:Int)<67108864:=by omega
        by_cases hlt:k+1<3
        · as_aux_lemma=>
           obtain ⟨q,hq⟩:∃ q:Nat,p+(k+1)=q:=⟨_,rfl⟩
           have hqi:(p:Int)+((k:Int)+1)=(q:Int):=by omega
           have hqs:(q:Int)<(s.size:Int):=by omega
           have HQ:Hid (p+(k+1)=q):=hq
           clear hq
           have hxj:(x:Int)<1048576:=by omega
           have hlt':(k:Int)+1<3:=by omega
           go_wp2_with fail
           refine ⟨⟨k+1,x*64+s[q].toNat % 64,by rw [step_val x s[q] (by omega)],by rw [show ((k:Int)+1+1)=(((k+1:Nat):Int)+1) by omega],by omega,by omega,by omega,by omega,by omega,?_,HB1.out⟩,by simp [intOf];omega⟩
           show x*64+s[q].toNat % 64=acc s p _ k*64+(s.get! (p+(k+1))).toNat % 64
           rw [←hX.out,HQ.out,get_bang s q (by omega)]
        · have hk1:k=2:=by omega
          subst hk1
          have HN:Hid (num s p 3=x):=hX.out.symm
          have hlei:(p:Int)+3≤(s.size:Int):=by omega
          clear hX hlt hx2 hx1 hx0 hk
          cases hq:tst s p 3 with
          | true=>
           as_aux_lemma=>
            have hq1:wd x=3∧put x=s.extract p (p+3):=by unfold tst at hq;rw [HN.out] at hq;exact of_decide_eq_true hq
            have HR:Hid (beginsU s p=x):=by show beginsU s p=x;rw [hB.out,show 5 - 3=(4 - 3)+1 by rfl,bgs,if_pos hle,if_pos hq,HN.out]
            have cW:Hid (∀ W:World,Calls Tryz.prog 125 #[.int .i64 x] W fun e w'=>e = .returned (.int .i64 3)∧w'=W):=fun W=>by have:=rwidth_any x W;rw [hq1.1] at this;exact this
            have cP:Hid (∀ W:World,Calls Tryz.prog 193 #[.int .i64 x] W fun e w'=>e = .returned (.string (s.extract p (p+3)))∧Below W.heap.size W w'):=fun W=>by have:=rput_any x W;rw [hq1.2] at this;exact this
            clear hq hq1 hB HN
            go_wp2_with fail
            refine wp_region_quiet_below mixed (by kernel_rfl) ?_
            repeat (go_big_quiet_step ((first | (go_at_call 125;exact below_same (cW.out _)) | (go_at_call 193;exact below_of (cP.out _)))))
            refine wpQuiet_nil ?_
            intro _ hw'
            obtain ⟨⟨w2,hb2⟩,hw''⟩:=hw'
            subst hw''
            go_wp2_with fail
            go_ret
            exact ⟨by rw [HR.out];rfl,HB1.out.trans (hb2.mono HB1.out.size)⟩
          | false=>
           as_aux_lemma=>
            have HR:Hid (beginsU s p=bgs s p (5 - (3+1)) (3+1)):=hB.out.trans (bgs_no s p (4 - 3) 3 hle hq)
            by_cases hw:wd x=3
            · have hne:put x≠s.extract p (p+3):=fun h=>by unfold tst at hq;rw [HN.out] at hq;exact absurd ⟨hw,h⟩ (of_decide_eq_false hq)
              have cW:Hid (∀ W:World,Calls Tryz.prog 125 #[.int .i64 x] W fun e w'=>e = .returned (.int .i64 3)∧w'=W):=fun W=>by have:=rwidth_any x W;rw [hw] at this;exact this
              obtain ⟨z,hz⟩:∃ z,put x=z:=⟨_,rfl⟩
              have cP:Hid (∀ W:World,Calls Tryz.prog 193 #[.int .i64 x] W fun e w'=>e = .returned (.string z)∧Below W.heap.size W w'):=fun W=>by have:=rput_any x W;rw [hz] at this;exact this
              rw [hz] at hne
              have hzn:=bstr_ne hne
              clear hq hw hz hne hB HN
              go_wp2_with fail
              refine wp_region_quiet_below mixed (by kernel_rfl) ?_
              repeat (go_big_quiet_step ((first | (go_at_call 125;exact below_same (cW.out _)) | (go_at_call 193;exact below_of (cP.out _)))))
              refine wpQuiet_nil ?_
              intro _ hw'
              obtain ⟨⟨w2,hb2⟩,hw''⟩:=hw'
              subst hw''
              go_wp2_with fail
              exact ⟨⟨3+1,rfl,by omega,by omega,HR,HB1.out.trans (hb2.mono HB1.out.size)⟩,by simp [intOf]⟩
            · obtain ⟨d,hd⟩:∃ d,wd x=d:=⟨_,rfl⟩
              have cW:Hid (∀ W:World,Calls Tryz.prog 125 #[.int .i64 x] W fun e w'=>e = .returned (.int .i64 d)∧w'=W):=fun W=>by have:=rwidth_any x W;rw [hd] at this;exact this
              rw [hd] at hw
              have hdn:(d == 3)=false:=by simpa using hw
              clear hq hw hd hB HN
              go_wp2_with fail
              refine wp_region_quiet_below mixed (by kernel_rfl) ?_
              repeat (go_big_quiet_step ((go_at_call 125;exact below_same (cW.out _))))
              refine wpQuiet_nil ?_
              intro _ hw'
              obtain ⟨⟨w2,hb2⟩,hw''⟩:=hw'
              subst hw''
              go_wp2_with fail
              exact ⟨⟨3+1,rfl,by omega,by omega,HR,HB1.out.trans (hb2.mono HB1.out.size)⟩,by simp [intOf]⟩
      ·
       rw [show ((4:Nat):Int)=(4:Int) from rfl]
       go_wp2_with fail
       go_loopw [6,7] (fun vu vi wq=>∃ (k x:Nat),vu = .int .i64 x∧vi = .int .i64 ((k:Int)+1)∧k+1≤4∧x<67108864∧(k≤2→x<1048576)∧(k≤1→x<16384)∧(k=0→x<256)∧Hid (x=acc s p ((s.get! p).toNat % md 4) k)∧Below w.heap.size w wq) (fun _ vi _=>4 - (intOf vi).toNat)
       case atStart=>
        have hm:=(s.get! p).toNat_lt
        have hm2:=Nat.mod_le (s.get! p).toNat (md 4)
        exact ⟨0,((s.get! p).toNat % md 4),by rw [w64b,←get_bang s p hp] <;> rfl,rfl,by omega,by omega,by omega,by omega,by omega,rfl,(HB0.out.alloc HB0.out.size _)⟩
       case round=>
        clear HB0
        obtain ⟨k,x,rfl,rfl,hk,hx,hx2,hx1,hx0,hX,hb⟩:=hrel
        have HB1:Hid (Below w.heap.size w wr):=hb
        clear hb
        have hxi:(x:Int)<67108864:=by omega
        by_cases hlt:k+1<4
        · as_aux_lemma=>
           obtain ⟨q,hq⟩:∃ q:Nat,p+(k+1)=q:=⟨_,rfl⟩
           have hqi:(p:Int)+((k:Int)+1)=(q:Int):=by omega
           have hqs:(q:Int)<(s.size:Int):=by omega
           have HQ:Hid (p+(k+1)=q):=hq
           clear hq
           have hxj:(x:Int)<1048576:=by omega
           have hlt':(k:Int)+1<4:=by omega
           go_wp2_with fail
           refine ⟨⟨k+1,x*64+s[q].toNat % 64,by rw [step_val x s[q] (by omega)],by rw [show ((k:Int)+1+1)=(((k+1:Nat):Int)+1) by omega],by omega,by omega,by omega,by omega,by omega,?_,HB1.out⟩,by simp [intOf];omega⟩
           show x*64+s[q].toNat % 64=acc s p _ k*64+(s.get! (p+(k+1))).toNat % 64
           rw [←hX.out,HQ.out,get_bang s q (by omega)]
        · have hk1:k=3:=by omega
          subst hk1
          have HN:Hid (num s p 4=x):=hX.out.symm
          have hlei:(p:Int)+4≤(s.size:Int):=by omega
          clear hX hlt hx2 hx1 hx0 hk
          cases hq:tst s p 4 with
          | true=>
           as_aux_lemma=>
            have hq1:wd x=4∧put x=s.extract p (p+4):=by unfold tst at hq;rw [HN.out] at hq;exact of_decide_eq_true hq
            have HR:Hid (beginsU s p=x):=by show beginsU s p=x;rw [hB.out,show 5 - 4=(4 - 4)+1 by rfl,bgs,if_pos hle,if_pos hq,HN.out]
            have cW:Hid (∀ W:World,Calls Tryz.prog 125 #[.int .i64 x] W fun e w'=>e = .returned (.int .i64 4)∧w'=W):=fun W=>by have:=rwidth_any x W;rw [hq1.1] at this;exact this
            have cP:Hid (∀ W:World,Calls Tryz.prog 193 #[.int .i64 x] W fun e w'=>e = .returned (.string (s.extract p (p+4)))∧Below W.heap.size W w'):=fun W=>by have:=rput_any x W;rw [hq1.2] at this;exact this
            clear hq hq1 hB HN
            go_wp2_with fail
            refine wp_region_quiet_below mixed (by kernel_rfl) ?_
            repeat (go_big_quiet_step ((first | (go_at_call 125;exact below_same (cW.out _)) | (go_at_call 193;exact below_of (cP.out _)))))
            refine wpQuiet_nil ?_
            intro _ hw'
            obtain ⟨⟨w2,hb2⟩,hw''⟩:=hw'
            subst hw''
            go_wp2_with fail
            go_ret
            exact ⟨by rw [HR.out];rfl,HB1.out.trans (hb2.mono HB1.out.size)⟩
          | false=>
           as_aux_lemma=>
            have HR:Hid (beginsU s p=bgs s p (5 - (4+1)) (4+1)):=hB.out.trans (bgs_no s p (4 - 4) 4 hle hq)
            by_cases hw:wd x=4
            · have hne:put x≠s.extract p (p+4):=fun h=>by unfold tst at hq;rw [HN.out] at hq;exact absurd ⟨hw,h⟩ (of_decide_eq_false hq)
              have cW:Hid (∀ W:World,Calls Tryz.prog 125 #[.int .i64 x] W fun e w'=>e = .returned (.int .i64 4)∧w'=W):=fun W=>by have:=rwidth_any x W;rw [hw] at this;exact this
              obtain ⟨z,hz⟩:∃ z,put x=z:=⟨_,rfl⟩
              have cP:Hid (∀ W:World,Calls Tryz.prog 193 #[.int .i64 x] W fun e w'=>e = .returned (.string z)∧Below W.heap.size W w'):=fun W=>by have:=rput_any x W;rw [hz] at this;exact this
              rw [hz] at hne
              have hzn:=bstr_ne hne
              clear hq hw hz hne hB HN
              go_wp2_with fail
              refine wp_region_quiet_below mixed (by kernel_rfl) ?_
              repeat (go_big_quiet_step ((first | (go_at_call 125;exact below_same (cW.out _)) | (go_at_call 193;exact below_of (cP.out _)))))
              refine wpQuiet_nil ?_
              intro _ hw'
              obtain ⟨⟨w2,hb2⟩,hw''⟩:=hw'
              subst hw''
              go_wp2_with fail
              exact ⟨⟨4+1,rfl,by omega,by omega,HR,HB1.out.trans (hb2.mono HB1.out.size)⟩,by simp [intOf]⟩
            · obtain ⟨d,hd⟩:∃ d,wd x=d:=⟨_,rfl⟩
              have cW:Hid (∀ W:World,Calls Tryz.prog 125 #[.int .i64 x] W fun e w'=>e = .returned (.int .i64 d)∧w'=W):=fun W=>by have:=rwidth_any x W;rw [hd] at this;exact this
              rw [hd] at hw
              have hdn:(d == 4)=false:=by simpa using hw
              clear hq hw hd hB HN
              go_wp2_with fail
              refine wp_region_quiet_below mixed (by kernel_rfl) ?_
              repeat (go_big_quiet_step ((go_at_call 125;exact below_same (cW.out _))))
              refine wpQuiet_nil ?_
              intro _ hw'
              obtain ⟨⟨w2,hb2⟩,hw''⟩:=hw'
              subst hw''
              go_wp2_with fail
              exact ⟨⟨4+1,rfl,by omega,by omega,HR,HB1.out.trans (hb2.mono HB1.out.size)⟩,by simp [intOf]⟩
    · as_aux_lemma=>
       have hle':¬ ((p:Int)+n≤(s.size:Int)):=by omega
       go_wp2_with fail
       go_ret
       obtain ⟨j,hj⟩:∃ j,5 - n=j+1:=⟨4 - n,by omega⟩
       refine ⟨?_,HB0.out⟩
       rw [hB.out,hj,bgs,if_neg hle]
       rfl
end Go.Proofs
