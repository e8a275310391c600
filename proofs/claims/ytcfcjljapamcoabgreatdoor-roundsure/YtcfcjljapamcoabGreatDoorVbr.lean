/-
  Valid: whether ranges are a set.
-/
import Derived.RangeFuncNested
import Derived.RangeFuncBound
import Derived.RangeFuncCalls
import Derived.RangeFuncLeaves
import Derived.Shelf.Abstract
import Derived.Shelf.RegionOpen
import Derived.WalkKit
import Derived.WalkSpells
import Derived.WalkLawsBesides
import Derived.OwnWalkIn
import Derived.TacticsInMore
import Derived.LoopNIn
import Derived.LoopIn
import Derived.BigQuiet
import Derived.RegionIn
import Derived.Deep.QuietTactic
import Derived.Deep.RegionWith
import Derived.Lib.OthersKept
import Derived.Maps.AppendAt
import Derived.Lib.SmallJoins
import Derived.Deep.DrawnRows
import Derived.Test.YtcfcjljapamcoabGreatDoorMpar
namespace Go.Proofs
open Go.RowKit Go.Shelf
set_option maxRecDepth 100000
attribute [local go_sem] Oper.semAt_some
attribute [local go_sem ↓] Go.wp_at_zero Go.wp_at_succ
def rg (l:List (Int × Int)) (j:Nat):Int × Int:=l[j]?.getD (0,0)
theorem rg_lt {l:List (Int × Int)} {j:Nat} (h:j<l.length):rg l j=l[j]:=by simp [rg,h]
def Good (l:List (Int × Int)):Prop:=(∀ x∈l,Whole x)∧l.Pairwise (fun x y=>x.2+2≤y.1)
instance (l:List (Int × Int)):Decidable (Good l):=by unfold Good;infer_instance
theorem good_nil:Good []:=⟨by simp,by simp⟩
theorem good_take {l:List (Int × Int)} (h:Good l) (k:Nat):Good (l.take k):=⟨fun x hx=>h.1 x (List.mem_of_mem_take hx),h.2.sublist (List.take_sublist _ _)⟩
theorem good_succ {l:List (Int × Int)} {k:Nat} (hk:k<l.length):Good (l.take (k+1))↔Good (l.take k)∧Whole (rg l k)∧(0<k→(rg l (k - 1)).2+2≤(rg l k).1):=by
 rw [List.take_succ_eq_append_getElem hk,rg_lt hk]
 constructor
 · rintro ⟨h1,h2⟩
   rw [List.pairwise_append] at h2
   refine ⟨⟨fun x hx=>h1 x (List.mem_append_left _ hx),h2.1⟩,h1 _ (List.mem_append_right _ (by simp)),fun h0 => ?_⟩
   rw [rg_lt (show k - 1<l.length by omega)]
   exact h2.2.2 _ (by rw [List.mem_take_iff_getElem];exact ⟨k - 1,by omega,rfl⟩) _ (by simp)
 · rintro ⟨⟨h1,h2⟩,h3,h4⟩
   refine ⟨fun x hx => ?_,?_⟩
   · rw [List.mem_append,List.mem_singleton] at hx
     rcases hx with hx | rfl
     · exact h1 x hx
     · exact h3
   · rw [List.pairwise_append]
     refine ⟨h2,by simp,fun x hx y hy => ?_⟩
     rw [List.mem_singleton] at hy
     subst hy
     rw [List.mem_take_iff_getElem] at hx
     obtain ⟨j,hj,rfl⟩:=hx
     have h5:=h4 (by omega)
     rw [rg_lt (show k - 1<l.length by omega)] at h5
     by_cases e:j=k - 1
     · subst e;exact h5
     · have h6:=List.pairwise_iff_getElem.1 h2 j (k - 1) (by simp;omega) (by simp;omega) (by omega)
       have h7:=h1 l[k - 1] (by rw [List.mem_take_iff_getElem];exact ⟨k - 1,by omega,rfl⟩)
       simp only [List.getElem_take] at h6
       have h8:=h7.1
       omega
def Reads (w:World) (g o:Nat) (l:List (Int × Int)):Prop:=∀ j,j<l.length→w.cell? ⟨g,o+j*2,none⟩=some (.int .i64 (rg l j).1)∧w.cell? ⟨g,o+j*2+1,none⟩=some (.int .i64 (rg l j).2)
def Rs (w:World) (v:Value) (l:List (Int × Int)):Prop:=
 ∃ (a:Option Addr) (cap:Nat),v = .slice a l.length cap∧l.length≤cap∧(l=[]∨∃ g o,a=some ⟨g,o,none⟩∧Reads w g o l)
theorem Reads.lt {w:World} {g o:Nat} {l:List (Int × Int)} (h:Reads w g o l) (h0:l≠[]):g<w.heap.size:=by
 obtain ⟨ob,ho,_⟩:=cells_of_cell (h 0 (List.length_pos_iff.2 h0)).1
 exact (Array.getElem?_eq_some_iff.1 ho).1
theorem Reads.below {w w':World} {n g o:Nat} {l:List (Int × Int)} (h:Reads w g o l) (hb:Below n w w') (hn:g<n):Reads w' g o l:=fun j hj=>
 ⟨(hb.cell (p:=⟨g,o+j*2,none⟩) hn).trans (h j hj).1,(hb.cell (p:=⟨g,o+j*2+1,none⟩) hn).trans (h j hj).2⟩
theorem Rs.below {w w':World} {n:Nat} {v:Value} {l:List (Int × Int)} (h:Rs w v l) (hb:Below n w w') (hn:w.heap.size≤n):Rs w' v l:=by
 obtain ⟨a,cap,rfl,hcp,h | ⟨g,o,rfl,hc⟩⟩:=h
 · exact ⟨a,cap,rfl,hcp,.inl h⟩
 · by_cases h0:l=[]
   · exact ⟨_,cap,rfl,hcp,.inl h0⟩
   · exact ⟨_,cap,rfl,hcp,.inr ⟨g,o,rfl,hc.below hb (by have:=hc.lt h0;omega)⟩⟩
def validB (l:List (Int × Int)):Bool:=decide (l.length≤512∧Good l)
theorem validB_iff (l:List (Int × Int)):validB l=true↔l.length≤512∧Good l:=by simp [validB]
theorem validB_no {l:List (Int × Int)} (h:¬ (l.length≤512∧Good l)):validB l=false:=by simp only [validB,decide_eq_false_iff_not];exact h
set_option maxHeartbeats 1000000 in
theorem valid_many (a:Option Addr) (n c:Nat) (w:World) (hn:512<n):Calls Tryz.prog 38 #[.slice a n c] w fun e w'=>e = .returned (.bool false)∧Grown w w':=by
 have h1:(512:Int)<(n:Int):=by omega
 go_enter Tryz.func38,Tryz.ntmps38
 go_wp2
 go_ret
 exact ⟨rfl,Grown.refl _⟩
set_option maxHeartbeats 1000000 in
theorem valid_nil (a:Option Addr) (c:Nat) (w:World):Calls Tryz.prog 38 #[.slice a 0 c] w fun e w'=>e = .returned (.bool (validB []))∧Grown w w':=by
 have hv:validB []=true:=by decide
 rw [hv]
 go_enter Tryz.func38,Tryz.ntmps38
 go_wp2
 go_loopw [10] (fun vi wr=>vi = .int .i64 0∧wr=w) (fun _ _=>0)
 case atStart=>exact ⟨rfl,rfl⟩
 case round=>
  obtain ⟨rfl,rfl⟩:=hrel
  go_wp2
  go_ret
  exact ⟨rfl,Grown.refl _⟩
set_option maxHeartbeats 1000000 in
theorem valid_walk (g o c:Nat) (l:List (Int × Int)) (w:World) (hT:Tab w) (hn:l.length≤512) (h:Reads w g o l) :
 Calls Tryz.prog 38 #[.slice (some ⟨g,o,none⟩) l.length c] w fun e w'=>e = .returned (.bool (validB l))∧Grown w w':=by
 obtain ⟨n,hnn⟩:∃ n,l.length=n:=⟨_,rfl⟩
 have HN:Hid (l.length=n):=hnn
 rw [hnn] at hn ⊢
 obtain ⟨r,hr⟩:∃ r:Bool,validB l=r:=⟨_,rfl⟩
 have HR:Hid (validB l=r):=hr
 rw [hr]
 clear hr hnn
 have hn':¬ (512:Int)<(n:Int):=by omega
 have HH:Hid (Reads w g o l):=h
 have hm:=mixed
 clear h
 go_enter Tryz.func38,Tryz.ntmps38
 go_wp2
 go_loopw [10] (fun vi wr=>∃ k:Nat,vi = .int .i64 k∧k≤n∧Hid (Good (l.take k))∧Grown w wr) (fun vi _=>n - (intOf vi).toNat)
 case atStart=>exact ⟨0,rfl,by omega,good_nil,Grown.refl _⟩
 case round=>
  obtain ⟨k,rfl,hk,hG,hB⟩:=hrel
  by_cases hlt:k<n
  · have hlt':(k:Int)<(n:Int):=by omega
    have hpos:(0:Int)≤(k:Int):=by omega
    have hkl:k<l.length:=by rw [HN.out];exact hlt
    obtain ⟨a,b,hab⟩:∃ a b:Int,rg l k=(a,b):=⟨_,_,rfl⟩
    obtain ⟨ca,cb⟩:=HH.out k hkl
    rw [hab] at ca cb
    simp only at ca cb
    have ca:=hB.cellv ca
    have cb:=hB.cellv cb
    have HT:Hid (∀ m os,Tab (Go.Sort.grow ((wr.alloc (.cells #[.int .i64 a,.int .i64 b] 55)).drewN m) os)):=fun m os=>(hT.grown hB).grown (((Grown.refl _).alloc _).quiet m os)
    have hS:Hid (Good (l.take (k+1))↔Good (l.take k)∧Whole (a,b)∧(0<k→(rg l (k - 1)).2+2≤a)):=by have:=good_succ hkl;rw [hab] at this;exact this
    have e0:∀ m os,(Go.Sort.grow ((wr.alloc (.cells #[.int .i64 a,.int .i64 b] 55)).drewN m) os).cell? ⟨wr.heap.size,0,none⟩=some (.int .i64 a):=fun m os=>cell_grown (by simp) (by simp) m os
    have e1:∀ m os,(Go.Sort.grow ((wr.alloc (.cells #[.int .i64 a,.int .i64 b] 55)).drewN m) os).cell? ⟨wr.heap.size,1,none⟩=some (.int .i64 b):=fun m os=>cell_grown (by simp) (by simp) m os
    clear hab
    by_cases hw:Whole (a,b)
    · have HW:Hid (decide (Whole (a,b))=true):=decide_eq_true hw
      have HC:Hid (∀ m os,Calls Tryz.prog 60 #[.agg #[.int .i64 a,.int .i64 b]] (Go.Sort.grow ((wr.alloc (.cells #[.int .i64 a,.int .i64 b] 55)).drewN m) os) fun e w'=>e = .returned (.bool true)∧Grown (Go.Sort.grow ((wr.alloc (.cells #[.int .i64 a,.int .i64 b] 55)).drewN m) os) w'):=fun m os=>by have:=whole_any a b _ (HT.out m os);rw [HW.out] at this;exact this
      have HW2:Hid (Whole (a,b)):=hw
      clear HW HT
      clear hw
      by_cases h0:k=0
      · have HS:Hid (Good (l.take (k+1))):=hS.out.2 ⟨hG.out,HW2.out,fun h=>by omega⟩
        subst h0
        rw [Nat.zero_mul,Nat.add_zero] at ca cb
        clear hS hG HW2
        go_wp2
        refine wp_region_quiet_grown hm (by kernel_rfl) ?_
        repeat (go_big_quiet_step ((go_at_call 60;exact grown_of (HC.out _ _))))
        refine wpQuiet_nil ?_
        intro _ hw'
        obtain ⟨⟨nq,osq⟩,hw''⟩:=hw'
        subst hw''
        go_wp2
        exact ⟨⟨1,rfl,by omega,HS,(hB.alloc _).quiet _ _⟩,by simp [intOf];omega⟩
      · obtain ⟨j,hj⟩:∃ j,k=j+1:=⟨k - 1,by omega⟩
        have hjl:j<l.length:=by omega
        have hq:(k:Int) - 1=(j:Int):=by omega
        have hk1:(0:Int)<(k:Int):=by omega
        have hk2:0<k:=by omega
        have hj0:(0:Int)≤(j:Int):=by omega
        have hj1:(j:Int)<(n:Int):=by omega
        obtain ⟨p,hp⟩:∃ p,(rg l j).2=p:=⟨_,rfl⟩
        have cp:=hB.cellv (HH.out j hjl).2
        rw [hp] at cp
        have e2:∀ m os,(Go.Sort.grow ((wr.alloc (.cells #[.int .i64 a,.int .i64 b] 55)).drewN m) os).cell? ⟨g,o+j*2+1,none⟩=some (.int .i64 p):=fun m os=>(((Grown.refl _).alloc _).quiet m os).cellv cp
        have hpw:Whole (rg l j):=by
         refine hG.out.1 _ ?_
         rw [rg_lt hjl,List.mem_take_iff_getElem]
         exact ⟨j,by omega,rfl⟩
        have ha0:0≤a∧a≤1114367:=by have:=HW2.out;rw [whole_iff] at this;omega
        have hp0:0≤p∧p≤1114367:=by have h1:=hpw.1;have h2:=hpw.2;rw [hp] at h1 h2;omega
        have hS':Hid (Good (l.take (k+1))↔p+2≤a):=by
         have:=hS.out
         rw [show k - 1=j by omega,hp] at this
         rw [this]
         exact ⟨fun h=>h.2.2 (by omega),fun h=>⟨hG.out,HW2.out,fun _=>h⟩⟩
        obtain ⟨ha1,ha2⟩:=ha0
        obtain ⟨hp1,hp2⟩:=hp0
        clear hS hG HW2 hp hpw cp hjl
        have HJ:Hid (k=j+1):=hj
        clear hj h0
        by_cases h2:a - p<2
        · go_wp2
          refine wp_region_quiet_grown hm (by kernel_rfl) ?_
          repeat (go_big_quiet_step ((go_at_call 60;exact grown_of (HC.out _ _))))
          refine wpQuiet_nil ?_
          intro _ hw'
          obtain ⟨⟨nq,osq⟩,hw''⟩:=hw'
          subst hw''
          go_wp2
          go_ret
          have hrf:r=false:=by
           rw [←HR.out]
           refine validB_no fun hv => ?_
           have:=hS'.out.1 (good_take hv.2 (k+1))
           omega
          exact ⟨by first | rfl | (rw [hrf];rfl),(hB.alloc _).quiet _ _⟩
        · have hd2:decide (a - p<2)=false:=by simp;omega
          go_wp2
          refine wp_region_quiet_grown hm (by kernel_rfl) ?_
          repeat (go_big_quiet_step ((go_at_call 60;exact grown_of (HC.out _ _))))
          refine wpQuiet_nil ?_
          intro _ hw'
          obtain ⟨⟨nq,osq⟩,hw''⟩:=hw'
          subst hw''
          go_wp2
          exact ⟨⟨k+1,by go_num,by omega,hS'.out.2 (by omega),(hB.alloc _).quiet _ _⟩,by simp [intOf];omega⟩
    · have HW:Hid (decide (Whole (a,b))=false):=decide_eq_false hw
      have HC:Hid (∀ m os,Calls Tryz.prog 60 #[.agg #[.int .i64 a,.int .i64 b]] (Go.Sort.grow ((wr.alloc (.cells #[.int .i64 a,.int .i64 b] 55)).drewN m) os) fun e w'=>e = .returned (.bool false)∧Grown (Go.Sort.grow ((wr.alloc (.cells #[.int .i64 a,.int .i64 b] 55)).drewN m) os) w'):=fun m os=>by have:=whole_any a b _ (HT.out m os);rw [HW.out] at this;exact this
      have hrf:r=false:=by
       rw [←HR.out]
       refine validB_no fun hv => ?_
       exact hw (hS.out.1 (good_take hv.2 (k+1))).2.1
      have HF:Hid (r=false):=hrf
      clear HW HT hw hS hG hrf
      go_wp2
      refine wp_region_quiet_grown hm (by kernel_rfl) ?_
      repeat (go_big_quiet_step ((go_at_call 60;exact grown_of (HC.out _ _))))
      refine wpQuiet_nil ?_
      intro _ hw'
      obtain ⟨⟨nq,osq⟩,hw''⟩:=hw'
      subst hw''
      go_wp2
      go_ret
      have hrf:=HF.out
      exact ⟨by first | rfl | (rw [hrf];rfl),(hB.alloc _).quiet _ _⟩
  · have hrt:r=true:=by
     rw [←HR.out,validB_iff,HN.out]
     have:=hG.out
     rw [List.take_of_length_le (by rw [HN.out];omega)] at this
     exact ⟨hn,this⟩
    have HF:Hid (r=true):=hrt
    clear hG hrt
    go_wp2
    go_ret
    have hrf:=HF.out
    exact ⟨by first | rfl | (rw [hrf];rfl),hB⟩
theorem valid_any (v:Value) (l:List (Int × Int)) (w:World) (hT:Tab w) (h:Rs w v l):Calls Tryz.prog 38 #[v] w fun e w'=>e = .returned (.bool (validB l))∧Grown w w':=by
 obtain ⟨a,cap,rfl,_,h⟩:=h
 by_cases hn:l.length≤512
 · rcases h with rfl | ⟨g,o,rfl,h⟩
   · exact valid_nil a cap w
   · exact valid_walk g o cap l w hT hn h
 · rw [validB_no (fun h=>hn h.1)]
   exact valid_many a l.length cap w (by omega)
end Go.Proofs
