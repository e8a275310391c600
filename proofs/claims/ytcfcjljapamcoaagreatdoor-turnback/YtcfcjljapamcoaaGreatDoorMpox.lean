/-
  Several texts in one (Max Rax).
-/
import Derived.Test.YtcfcjljapamcoaaGreatDoorMpcx
import Derived.RangeFuncNested
import Derived.RangeFuncBound
import Derived.RangeFuncCalls
import Derived.RangeFuncLeaves
import Derived.Shelf.Abstract
import Derived.Shelf.RegionOpen
import Derived.WalkKit
import Derived.WalkSpells
import Derived.WalkLawsBesides
import Derived.OwnWalkIn
import Derived.TacticsInMore
import Derived.LoopNIn
import Derived.LoopIn
import Derived.BigQuiet
import Derived.RegionIn
import Derived.Deep.QuietTactic
import Derived.Deep.RegionWith
import Derived.Lib.OthersKept
import Derived.Maps.AppendAt
import Derived.Lib.SmallJoins
namespace Go.Proofs
open Go.RowKit Go.Shelf
theorem hasU_cons (x:Int × Int) (l:List (Int × Int)) (u:Int):hasU (x::l) u↔(x.1≤u∧u≤x.2)∨hasU l u:=by
 unfold hasU
 simp only [List.mem_cons]
 constructor
 · rintro ⟨y,rfl | hy,h⟩
   · exact .inl h
   · exact .inr ⟨y,hy,h⟩
 · rintro (h | ⟨y,hy,h⟩)
   · exact ⟨x,.inl rfl,h⟩
   · exact ⟨y,.inr hy,h⟩
theorem nth_at:∀ (l:List (Int × Int)) (k:Nat) (i:Int),(∀ x∈l,Whole x)→k<l.length→0≤i→i<(rg l k).2 - (rg l k).1+1→nthL l (tot (l.take k)+i)=some ((rg l k).1+i)
 | [],k,i,_,hk,_,_=>by simp at hk
 | x::l,0,i,_,_,h0,h1=>by
  have e:rg (x::l) 0=x:=rfl
  rw [e] at h1 ⊢
  simp only [List.take_zero,tot_nil,nthL,Int.zero_add]
  rw [if_pos h1]
 | x::l,k+1,i,hw,hk,h0,h1=>by
  have e:rg (x::l) (k+1)=rg l k:=by simp [rg]
  rw [e] at h1 ⊢
  have ih:=nth_at l k i (fun y hy=>hw y (by simp [hy])) (by simpa using hk) h0 h1
  have hb:=(tot_bound (l:=l.take k) (fun y hy=>hw y (by simp [List.mem_of_mem_take hy]))).1
  rw [List.take_succ_cons,tot_cons,nthL,if_neg (by omega),show x.2 - x.1+1+tot (l.take k)+i - (x.2 - x.1+1)=tot (l.take k)+i by omega]
  exact ih
theorem nth_place {l:List (Int × Int)} (h:Good l) {u:Int} (hu:hasU l u):nthL l (placeU l u)=some u∧0≤placeU l u:=by
 have hlt:fnd l u<l.length:=by
  have h1:=fnd_le l u
  by_cases e:fnd l u=l.length
  · exact absurd hu (hasU_end h e)
  · omega
 have h1:=(hasU_in h hlt).1 hu
 have h2:¬ (rg l (fnd l u)).2<u:=fun e=>by have:=(fnd_lt h u hlt).2 e;omega
 have h3:=nth_at l (fnd l u) (u - (rg l (fnd l u)).1) h.1 hlt (by omega) (by omega)
 have h4:=(tot_bound (l:=l.take (fnd l u)) (fun y hy=>h.1 y (List.mem_of_mem_take hy))).1
 unfold placeU
 rw [show tot (l.take (fnd l u))+u - (rg l (fnd l u)).1=tot (l.take (fnd l u))+(u - (rg l (fnd l u)).1) by omega,h3]
 exact ⟨by rw [show (rg l (fnd l u)).1+(u - (rg l (fnd l u)).1)=u by omega],by omega⟩
end Go.Proofs
namespace Go.Proofs
open Go.RowKit Go.Shelf
set_option maxRecDepth 100000
attribute [local go_sem] Oper.semAt_some
theorem lit3 (W:World) (h:Nat) (hh:W.heap.size=h):OwnR (W.alloc (.cells #[.int .i64 0,.int .i64 55295,.int .i64 57344,.int .i64 1114111,.int .i64 1114240,.int .i64 1114367] 67)) h (.slice (some ⟨h,0,none⟩) 3 3) allU:=by
 subst hh
 exact World.ownsRow_lit W _ 3 (Nat.le_refl _) (by unfold maxLen;omega) rfl
set_option maxHeartbeats 1000000 in
theorem domain_any (w:World):Calls Tryz.prog 55 #[] w fun e w'=>e = .returned (.slice (some ⟨w.heap.size,0,none⟩) 3 3)∧w'=w.alloc (.cells #[.int .i64 0,.int .i64 55295,.int .i64 57344,.int .i64 1114111,.int .i64 1114240,.int .i64 1114367] 67):=by
 go_enter Tryz.func55,Tryz.ntmps55
 go_wp2
 go_ret
 exact ⟨rfl,rfl⟩
def wB (a b:Int):Nat→Bool
 | 0=>false
 | k+1=>wB a b k || (decide (blkLo k≤a) && decide (b≤blkHi k) && decide (a≤b))
theorem wB_three (a b:Int):wB a b 3=decide (Whole (a,b)):=by
 rw [Bool.eq_iff_iff,decide_eq_true_eq,whole_iff]
 simp only [wB,blkLo,blkHi,Bool.or_eq_true,Bool.and_eq_true,decide_eq_true_eq,Bool.false_eq_true,false_or]
 omega
theorem wB_yes {a b:Int} {k:Nat} (h1:blkLo k≤a) (h2:b≤blkHi k) (h3:a≤b):wB a b (k+1)=true:=by simp [wB,h1,h2,h3]
theorem wB_no {a b:Int} {k:Nat} (h:¬ (blkLo k≤a∧b≤blkHi k∧a≤b)):wB a b (k+1)=wB a b k:=by
 simp only [wB]
 by_cases h1:blkLo k≤a
 · by_cases h2:b≤blkHi k
   · have h3:¬ a≤b:=fun h3=>h ⟨h1,h2,h3⟩
     simp [h3]
   · simp [h2]
 · simp [h1]
set_option maxHeartbeats 4000000 in
theorem rvalid_walk (g o c:Nat) (l:List (Int × Int)) (w:World) (hn:l.length≤512) (h:Reads w g o l) :
 Calls Tryz.prog 23 #[.slice (some ⟨g,o,none⟩) l.length c] w fun e w'=>e = .returned (.bool (validB l))∧Grown w w':=by
 obtain ⟨n,hnn⟩:∃ n,l.length=n:=⟨_,rfl⟩
 have HN:Hid (l.length=n):=hnn
 rw [hnn] at hn ⊢
 obtain ⟨r,hr⟩:∃ r:Bool,validB l=r:=⟨_,rfl⟩
 have HR:Hid (validB l=r):=hr
 rw [hr]
 clear hr hnn
 have hn':¬ (512:Int)<(n:Int):=by omega
 have HH:Hid (Reads w g o l):=h
 clear h
 go_enter Tryz.func23,Tryz.ntmps23
 go_wp2
 go_loopw [3] (fun vi wr=>∃ k:Nat,vi = .int .i64 k∧k≤n∧Hid (Good (l.take k))∧Grown w wr) (fun vi _=>n - (intOf vi).toNat)
 case atStart=>exact ⟨0,rfl,by omega,good_nil,Grown.refl _⟩
 case round=>
  obtain ⟨k,rfl,hk,hG,hB⟩:=hrel
  by_cases hlt:k<n
  · as_aux_lemma=>
     have hlt':(k:Int)<(n:Int):=by omega
     have hpos:(0:Int)≤(k:Int):=by omega
     have hkl:k<l.length:=by rw [HN.out];exact hlt
     obtain ⟨a,b,hab⟩:∃ a b:Int,rg l k=(a,b):=⟨_,_,rfl⟩
     have HAB:Hid (rg l k=(a,b)):=hab
     obtain ⟨ca,cb⟩:=HH.out k hkl
     rw [hab] at ca cb
     simp only at ca cb
     have ca:=hB.cellv ca
     have cb:=hB.cellv cb
     clear hab
     go_wp2_with fail
     refine (domain_any wr).mono ?_
     rintro e w1 ⟨rfl,hw1⟩
     have hB1:Grown wr w1:=by rw [hw1];exact (Grown.refl _).alloc _
     have hO1:OwnR w1 wr.heap.size (.slice (some ⟨wr.heap.size,0,none⟩) 3 3) allU:=by rw [hw1];exact lit3 wr _ rfl
     have hrd:=OwnR.reads hO1
     have HD:Hid (∀ W,Grown w1 W→∀ j,j<3→W.cell? ⟨wr.heap.size,0+j*2,none⟩=some (.int .i64 (blkLo j))∧W.cell? ⟨wr.heap.size,0+j*2+1,none⟩=some (.int .i64 (blkHi j))):=fun W hW j hj=>by
      have h1:=hrd j hj
      have e:rg allU j=(blkLo j,blkHi j):=by
       have h3:j=0∨j=1∨j=2:=by omega
       rcases h3 with rfl | rfl | rfl <;> rfl
      rw [e] at h1
      exact ⟨hW.cellv h1.1,hW.cellv h1.2⟩
     have ca:=hB1.cellv ca
     have cb:=hB1.cellv cb
     have hBw:=hB.trans hB1
     clear hw1 hO1 hrd
     go_wp2
     go_loopw [4,6] (fun vf vj wq=>∃ j:Nat,vj = .int .i64 j∧j≤3∧vf = .bool (wB a b j)∧Grown w1 wq) (fun _ vj _=>3 - (intOf vj).toNat)
     case atStart=>exact ⟨0,rfl,by omega,rfl,Grown.refl _⟩
     case round=>
      obtain ⟨j,rfl,hj,rfl,hQ⟩:=hrel
      have cqa:=hQ.cellv ca
      have cqb:=hQ.cellv cb
      have hj4:j=0∨j=1∨j=2∨j=3:=by omega
      rcases hj4 with rfl | rfl | rfl | rfl
      · have dd:=HD.out _ hQ 0 (by omega)
        simp only [Nat.zero_mul,Nat.zero_add,blkLo,blkHi] at dd
        obtain ⟨d0,d1⟩:=dd
        by_cases h1:0≤a
        · by_cases h2:b≤55295
          · by_cases h3:a≤b
            · as_aux_lemma=>
               have HW:Hid (wB a b 1=true):=wB_yes (k:=0) h1 h2 h3
               go_wp2
               go_quiet (fail)
               go_wp2
               exact ⟨⟨1,rfl,by omega,by rw [HW.out],hQ.drewN _⟩,by simp [intOf]⟩
            · as_aux_lemma=>
               have HW:Hid (wB a b 1=wB a b 0):=wB_no (k:=0) (fun h=>h3 h.2.2)
               have hd:decide (a≤b)=false:=by simp;omega
               clear h3
               go_wp2
               go_quiet (fail)
               go_wp2
               exact ⟨⟨1,rfl,by omega,by rw [HW.out],hQ.drewN _⟩,by simp [intOf]⟩
          · as_aux_lemma=>
             have HW:Hid (wB a b 1=wB a b 0):=wB_no (k:=0) (fun h=>h2 h.2.1)
             have hd:decide (b≤55295)=false:=by simp;omega
             clear h2
             go_wp2
             go_quiet (fail)
             go_wp2
             exact ⟨⟨1,rfl,by omega,by rw [HW.out],hQ.drewN _⟩,by simp [intOf]⟩
        · as_aux_lemma=>
           have HW:Hid (wB a b 1=wB a b 0):=wB_no (k:=0) (fun h=>h1 h.1)
           have hd:decide (0≤a)=false:=by simp;omega
           clear h1
           go_wp2
           go_quiet (fail)
           go_wp2
           exact ⟨⟨1,rfl,by omega,by rw [HW.out],hQ.drewN _⟩,by simp [intOf]⟩
      · have dd:=HD.out _ hQ 1 (by omega)
        simp only [Nat.reduceMul,Nat.reduceAdd,Nat.zero_add,blkLo,blkHi] at dd
        obtain ⟨d0,d1⟩:=dd
        by_cases h1:57344≤a
        · by_cases h2:b≤1114111
          · by_cases h3:a≤b
            · as_aux_lemma=>
               have HW:Hid (wB a b 2=true):=wB_yes (k:=1) h1 h2 h3
               go_wp2
               go_quiet (fail)
               go_wp2
               exact ⟨⟨2,rfl,by omega,by rw [HW.out],hQ.drewN _⟩,by simp [intOf]⟩
            · as_aux_lemma=>
               have HW:Hid (wB a b 2=wB a b 1):=wB_no (k:=1) (fun h=>h3 h.2.2)
               have hd:decide (a≤b)=false:=by simp;omega
               clear h3
               go_wp2
               go_quiet (fail)
               go_wp2
               exact ⟨⟨2,rfl,by omega,by rw [HW.out],hQ.drewN _⟩,by simp [intOf]⟩
          · as_aux_lemma=>
             have HW:Hid (wB a b 2=wB a b 1):=wB_no (k:=1) (fun h=>h2 h.2.1)
             have hd:decide (b≤1114111)=false:=by simp;omega
             clear h2
             go_wp2
             go_quiet (fail)
             go_wp2
             exact ⟨⟨2,rfl,by omega,by rw [HW.out],hQ.drewN _⟩,by simp [intOf]⟩
        · as_aux_lemma=>
           have HW:Hid (wB a b 2=wB a b 1):=wB_no (k:=1) (fun h=>h1 h.1)
           have hd:decide (57344≤a)=false:=by simp;omega
           clear h1
           go_wp2
           go_quiet (fail)
           go_wp2
           exact ⟨⟨2,rfl,by omega,by rw [HW.out],hQ.drewN _⟩,by simp [intOf]⟩
      · have dd:=HD.out _ hQ 2 (by omega)
        simp only [Nat.reduceMul,Nat.reduceAdd,Nat.zero_add,blkLo,blkHi] at dd
        obtain ⟨d0,d1⟩:=dd
        by_cases h1:1114240≤a
        · by_cases h2:b≤1114367
          · by_cases h3:a≤b
            · as_aux_lemma=>
               have HW:Hid (wB a b 3=true):=wB_yes (k:=2) h1 h2 h3
               go_wp2
               go_quiet (fail)
               go_wp2
               exact ⟨⟨3,rfl,by omega,by rw [HW.out],hQ.drewN _⟩,by simp [intOf]⟩
            · as_aux_lemma=>
               have HW:Hid (wB a b 3=wB a b 2):=wB_no (k:=2) (fun h=>h3 h.2.2)
               have hd:decide (a≤b)=false:=by simp;omega
               clear h3
               go_wp2
               go_quiet (fail)
               go_wp2
               exact ⟨⟨3,rfl,by omega,by rw [HW.out],hQ.drewN _⟩,by simp [intOf]⟩
          · as_aux_lemma=>
             have HW:Hid (wB a b 3=wB a b 2):=wB_no (k:=2) (fun h=>h2 h.2.1)
             have hd:decide (b≤1114367)=false:=by simp;omega
             clear h2
             go_wp2
             go_quiet (fail)
             go_wp2
             exact ⟨⟨3,rfl,by omega,by rw [HW.out],hQ.drewN _⟩,by simp [intOf]⟩
        · as_aux_lemma=>
           have HW:Hid (wB a b 3=wB a b 2):=wB_no (k:=2) (fun h=>h1 h.1)
           have hd:decide (1114240≤a)=false:=by simp;omega
           clear h1
           go_wp2
           go_quiet (fail)
           go_wp2
           exact ⟨⟨3,rfl,by omega,by rw [HW.out],hQ.drewN _⟩,by simp [intOf]⟩
      · as_aux_lemma=>
         have hS:Good (l.take (k+1))↔Good (l.take k)∧Whole (a,b)∧(0<k→(rg l (k - 1)).2+2≤a):=by have:=good_succ hkl;rw [HAB.out] at this;exact this
         rw [wB_three]
         have hQw:=hBw.trans hQ
         clear ca cb HD
         by_cases hw:Whole (a,b)
         · rw [decide_eq_true hw]
           by_cases h0:k=0
           · as_aux_lemma=>
              have HS:Hid (Good (l.take (k+1))):=hS.2 ⟨hG.out,hw,fun h=>by omega⟩
              subst h0
              clear hS hG hw
              go_wp2
              go_quiet (fail)
              go_wp2
              exact ⟨⟨1,rfl,by omega,HS,hQw.drewN _⟩,by simp [intOf];omega⟩
           · as_aux_lemma=>
              obtain ⟨j,hj⟩:∃ j,k=j+1:=⟨k - 1,by omega⟩
              have hjl:j<l.length:=by omega
              have hq:(k:Int) - 1=(j:Int):=by omega
              have hk1:(0:Int)<(k:Int):=by omega
              have hk2:0<k:=by omega
              have hj0:(0:Int)≤(j:Int):=by omega
              have hj1:(j:Int)<(n:Int):=by omega
              obtain ⟨p,hp⟩:∃ p,(rg l j).2=p:=⟨_,rfl⟩
              have cp:=hQw.cellv (HH.out j hjl).2
              rw [hp] at cp
              have hpw:Whole (rg l j):=by
               refine hG.out.1 _ ?_
               rw [rg_lt hjl,List.mem_take_iff_getElem]
               exact ⟨j,by omega,rfl⟩
              have ha0:0≤a∧a≤1114367:=by have:=(whole_iff _ _).1 hw;omega
              have hp0:0≤p∧p≤1114367:=by have h1:=hpw.1;have h2:=hpw.2;rw [hp] at h1 h2;omega
              have hS':Hid (Good (l.take (k+1))↔p+2≤a):=by
               rw [show k - 1=j by omega,hp] at hS
               show _↔_
               rw [hS]
               exact ⟨fun h=>h.2.2 (by omega),fun h=>⟨hG.out,hw,fun _=>h⟩⟩
              obtain ⟨ha1,ha2⟩:=ha0
              obtain ⟨hp1,hp2⟩:=hp0
              clear hS hG hp hpw hjl hw hj h0
              by_cases h2:a<p+2
              · as_aux_lemma=>
                 have hrf:r=false:=by
                  rw [←HR.out]
                  refine validB_no fun hv => ?_
                  have:=hS'.out.1 (good_take hv.2 (k+1))
                  omega
                 have HF:Hid (r=false):=hrf
                 clear hrf
                 go_wp2
                 go_quiet (fail)
                 go_wp2
                 go_ret
                 have hrf:=HF.out
                 exact ⟨by first | rfl | (rw [hrf];rfl),hQw.drewN _⟩
              · as_aux_lemma=>
                 have hd2:decide (a<p+2)=false:=by simp;omega
                 have HS:Hid (Good (l.take (k+1))):=hS'.out.2 (by omega)
                 clear h2 hS'
                 go_wp2
                 go_quiet (fail)
                 go_wp2
                 exact ⟨⟨k+1,by go_num,by omega,HS,hQw.drewN _⟩,by simp [intOf];omega⟩
         · rw [decide_eq_false hw]
           as_aux_lemma=>
            have hrf:r=false:=by
             rw [←HR.out]
             refine validB_no fun hv => ?_
             exact hw (hS.1 (good_take hv.2 (k+1))).2.1
            have HF:Hid (r=false):=hrf
            clear hrf hS hG hw
            go_wp2
            go_quiet (fail)
            go_wp2
            go_ret
            have hrf:=HF.out
            exact ⟨by first | rfl | (rw [hrf];rfl),hQw.drewN _⟩
  · have hrt:r=true:=by
     rw [←HR.out,validB_iff,HN.out]
     have:=hG.out
     rw [List.take_of_length_le (by rw [HN.out];omega)] at this
     exact ⟨hn,this⟩
    have HF:Hid (r=true):=hrt
    clear hG hrt
    go_wp2
    go_ret
    have hrf:=HF.out
    exact ⟨by first | rfl | (rw [hrf];rfl),hB⟩
set_option maxHeartbeats 1000000 in
theorem rvalid_many (a:Option Addr) (n c:Nat) (w:World) (hn:512<n):Calls Tryz.prog 23 #[.slice a n c] w fun e w'=>e = .returned (.bool false)∧Grown w w':=by
 have h1:(512:Int)<(n:Int):=by omega
 go_enter Tryz.func23,Tryz.ntmps23
 go_wp2
 go_ret
 exact ⟨rfl,Grown.refl _⟩
set_option maxHeartbeats 1000000 in
theorem rvalid_nil (a:Option Addr) (c:Nat) (w:World):Calls Tryz.prog 23 #[.slice a 0 c] w fun e w'=>e = .returned (.bool (validB []))∧Grown w w':=by
 have hv:validB []=true:=by decide
 rw [hv]
 go_enter Tryz.func23,Tryz.ntmps23
 go_wp2
 go_loopw [3] (fun vi wr=>vi = .int .i64 0∧wr=w) (fun _ _=>0)
 case atStart=>exact ⟨rfl,rfl⟩
 case round=>
  obtain ⟨rfl,rfl⟩:=hrel
  go_wp2
  go_ret
  exact ⟨rfl,Grown.refl _⟩
theorem rvalid_any (v:Value) (l:List (Int × Int)) (w:World) (h:Rs w v l):Calls Tryz.prog 23 #[v] w fun e w'=>e = .returned (.bool (validB l))∧Grown w w':=by
 obtain ⟨a,cap,rfl,_,h⟩:=h
 by_cases hn:l.length≤512
 · rcases h with rfl | ⟨g,o,rfl,h⟩
   · exact rvalid_nil a cap w
   · exact rvalid_walk g o cap l w hn h
 · rw [validB_no (fun h=>hn h.1)]
   exact rvalid_many a l.length cap w (by omega)
end Go.Proofs
