/-
  Several texts in one (Vbx Vcx Vdx).
-/
import Derived.RangeFuncNested
import Derived.RangeFuncBound
import Derived.RangeFuncCalls
import Derived.RangeFuncLeaves
import Derived.Shelf.Abstract
import Derived.Shelf.RegionOpen
import Derived.WalkKit
import Derived.WalkSpells
import Derived.WalkLawsBesides
import Derived.OwnWalkIn
import Derived.TacticsInMore
import Derived.LoopNIn
import Derived.LoopIn
import Derived.BigQuiet
import Derived.RegionIn
import Derived.Deep.QuietTactic
import Derived.Deep.RegionWith
import Derived.Lib.OthersKept
import Derived.Maps.AppendAt
import Derived.Lib.SmallJoins
import Derived.Deep.DrawnRows
import Derived.Test.YtcfcjljapamcoaaGreatDoorMpax
namespace Go.Proofs
open Go.RowKit Go.Shelf
set_option maxRecDepth 100000
attribute [local go_sem] Oper.semAt_some
attribute [local go_sem ↓] Go.wp_at_zero Go.wp_at_succ
def rg (l:List (Int × Int)) (j:Nat):Int × Int:=l[j]?.getD (0,0)
theorem rg_lt {l:List (Int × Int)} {j:Nat} (h:j<l.length):rg l j=l[j]:=by simp [rg,h]
def Good (l:List (Int × Int)):Prop:=(∀ x∈l,Whole x)∧l.Pairwise (fun x y=>x.2+2≤y.1)
instance (l:List (Int × Int)):Decidable (Good l):=by unfold Good;infer_instance
theorem good_nil:Good []:=⟨by simp,by simp⟩
theorem good_take {l:List (Int × Int)} (h:Good l) (k:Nat):Good (l.take k):=⟨fun x hx=>h.1 x (List.mem_of_mem_take hx),h.2.sublist (List.take_sublist _ _)⟩
theorem good_succ {l:List (Int × Int)} {k:Nat} (hk:k<l.length):Good (l.take (k+1))↔Good (l.take k)∧Whole (rg l k)∧(0<k→(rg l (k - 1)).2+2≤(rg l k).1):=by
 rw [List.take_succ_eq_append_getElem hk,rg_lt hk]
 constructor
 · rintro ⟨h1,h2⟩
   rw [List.pairwise_append] at h2
   refine ⟨⟨fun x hx=>h1 x (List.mem_append_left _ hx),h2.1⟩,h1 _ (List.mem_append_right _ (by simp)),fun h0 => ?_⟩
   rw [rg_lt (show k - 1<l.length by omega)]
   exact h2.2.2 _ (by rw [List.mem_take_iff_getElem];exact ⟨k - 1,by omega,rfl⟩) _ (by simp)
 · rintro ⟨⟨h1,h2⟩,h3,h4⟩
   refine ⟨fun x hx => ?_,?_⟩
   · rw [List.mem_append,List.mem_singleton] at hx
     rcases hx with hx | rfl
     · exact h1 x hx
     · exact h3
   · rw [List.pairwise_append]
     refine ⟨h2,by simp,fun x hx y hy => ?_⟩
     rw [List.mem_singleton] at hy
     subst hy
     rw [List.mem_take_iff_getElem] at hx
     obtain ⟨j,hj,rfl⟩:=hx
     have h5:=h4 (by omega)
     rw [rg_lt (show k - 1<l.length by omega)] at h5
     by_cases e:j=k - 1
     · subst e;exact h5
     · have h6:=List.pairwise_iff_getElem.1 h2 j (k - 1) (by simp;omega) (by simp;omega) (by omega)
       have h7:=h1 l[k - 1] (by rw [List.mem_take_iff_getElem];exact ⟨k - 1,by omega,rfl⟩)
       simp only [List.getElem_take] at h6
       have h8:=h7.1
       omega
def Reads (w:World) (g o:Nat) (l:List (Int × Int)):Prop:=∀ j,j<l.length→w.cell? ⟨g,o+j*2,none⟩=some (.int .i64 (rg l j).1)∧w.cell? ⟨g,o+j*2+1,none⟩=some (.int .i64 (rg l j).2)
def Rs (w:World) (v:Value) (l:List (Int × Int)):Prop:=
 ∃ (a:Option Addr) (cap:Nat),v = .slice a l.length cap∧l.length≤cap∧(l=[]∨∃ g o,a=some ⟨g,o,none⟩∧Reads w g o l)
theorem Reads.lt {w:World} {g o:Nat} {l:List (Int × Int)} (h:Reads w g o l) (h0:l≠[]):g<w.heap.size:=by
 obtain ⟨ob,ho,_⟩:=cells_of_cell (h 0 (List.length_pos_iff.2 h0)).1
 exact (Array.getElem?_eq_some_iff.1 ho).1
theorem Reads.below {w w':World} {n g o:Nat} {l:List (Int × Int)} (h:Reads w g o l) (hb:Below n w w') (hn:g<n):Reads w' g o l:=fun j hj=>
 ⟨(hb.cell (p:=⟨g,o+j*2,none⟩) hn).trans (h j hj).1,(hb.cell (p:=⟨g,o+j*2+1,none⟩) hn).trans (h j hj).2⟩
theorem Rs.below {w w':World} {n:Nat} {v:Value} {l:List (Int × Int)} (h:Rs w v l) (hb:Below n w w') (hn:w.heap.size≤n):Rs w' v l:=by
 obtain ⟨a,cap,rfl,hcp,h | ⟨g,o,rfl,hc⟩⟩:=h
 · exact ⟨a,cap,rfl,hcp,.inl h⟩
 · by_cases h0:l=[]
   · exact ⟨_,cap,rfl,hcp,.inl h0⟩
   · exact ⟨_,cap,rfl,hcp,.inr ⟨g,o,rfl,hc.below hb (by have:=hc.lt h0;omega)⟩⟩
def validB (l:List (Int × Int)):Bool:=decide (l.length≤512∧Good l)
theorem validB_iff (l:List (Int × Int)):validB l=true↔l.length≤512∧Good l:=by simp [validB]
theorem validB_no {l:List (Int × Int)} (h:¬ (l.length≤512∧Good l)):validB l=false:=by simp only [validB,decide_eq_false_iff_not];exact h
set_option maxHeartbeats 1000000 in
theorem valid_many (a:Option Addr) (n c:Nat) (w:World) (hn:512<n):Calls Tryz.prog 127 #[.slice a n c] w fun e w'=>e = .returned (.bool false)∧Grown w w':=by
 have h1:(512:Int)<(n:Int):=by omega
 go_enter Tryz.func127,Tryz.ntmps127
 go_wp2
 go_ret
 exact ⟨rfl,Grown.refl _⟩
set_option maxHeartbeats 1000000 in
theorem valid_nil (a:Option Addr) (c:Nat) (w:World):Calls Tryz.prog 127 #[.slice a 0 c] w fun e w'=>e = .returned (.bool (validB []))∧Grown w w':=by
 have hv:validB []=true:=by decide
 rw [hv]
 go_enter Tryz.func127,Tryz.ntmps127
 go_wp2
 go_loopw [10] (fun vi wr=>vi = .int .i64 0∧wr=w) (fun _ _=>0)
 case atStart=>exact ⟨rfl,rfl⟩
 case round=>
  obtain ⟨rfl,rfl⟩:=hrel
  go_wp2
  go_ret
  exact ⟨rfl,Grown.refl _⟩
set_option maxHeartbeats 1000000 in
theorem valid_walk (g o c:Nat) (l:List (Int × Int)) (w:World) (hT:Tab w) (hn:l.length≤512) (h:Reads w g o l) :
 Calls Tryz.prog 127 #[.slice (some ⟨g,o,none⟩) l.length c] w fun e w'=>e = .returned (.bool (validB l))∧Grown w w':=by
 obtain ⟨n,hnn⟩:∃ n,l.length=n:=⟨_,rfl⟩
 have HN:Hid (l.length=n):=hnn
 rw [hnn] at hn ⊢
 obtain ⟨r,hr⟩:∃ r:Bool,validB l=r:=⟨_,rfl⟩
 have HR:Hid (validB l=r):=hr
 rw [hr]
 clear hr hnn
 have hn':¬ (512:Int)<(n:Int):=by omega
 have HH:Hid (Reads w g o l):=h
 have hm:=mixed
 clear h
 go_enter Tryz.func127,Tryz.ntmps127
 go_wp2
 go_loopw [10] (fun vi wr=>∃ k:Nat,vi = .int .i64 k∧k≤n∧Hid (Good (l.take k))∧Grown w wr) (fun vi _=>n - (intOf vi).toNat)
 case atStart=>exact ⟨0,rfl,by omega,good_nil,Grown.refl _⟩
 case round=>
  obtain ⟨k,rfl,hk,hG,hB⟩:=hrel
  by_cases hlt:k<n
  · have hlt':(k:Int)<(n:Int):=by omega
    have hpos:(0:Int)≤(k:Int):=by omega
    have hkl:k<l.length:=by rw [HN.out];exact hlt
    obtain ⟨a,b,hab⟩:∃ a b:Int,rg l k=(a,b):=⟨_,_,rfl⟩
    obtain ⟨ca,cb⟩:=HH.out k hkl
    rw [hab] at ca cb
    simp only at ca cb
    have ca:=hB.cellv ca
    have cb:=hB.cellv cb
    have HT:Hid (∀ m os,Tab (Go.Sort.grow ((wr.alloc (.cells #[.int .i64 a,.int .i64 b] 67)).drewN m) os)):=fun m os=>(hT.grown hB).grown (((Grown.refl _).alloc _).quiet m os)
    have hS:Hid (Good (l.take (k+1))↔Good (l.take k)∧Whole (a,b)∧(0<k→(rg l (k - 1)).2+2≤a)):=by have:=good_succ hkl;rw [hab] at this;exact this
    have e0:∀ m os,(Go.Sort.grow ((wr.alloc (.cells #[.int .i64 a,.int .i64 b] 67)).drewN m) os).cell? ⟨wr.heap.size,0,none⟩=some (.int .i64 a):=fun m os=>cell_grown (by simp) (by simp) m os
    have e1:∀ m os,(Go.Sort.grow ((wr.alloc (.cells #[.int .i64 a,.int .i64 b] 67)).drewN m) os).cell? ⟨wr.heap.size,1,none⟩=some (.int .i64 b):=fun m os=>cell_grown (by simp) (by simp) m os
    clear hab
    by_cases hw:Whole (a,b)
    · have HW:Hid (decide (Whole (a,b))=true):=decide_eq_true hw
      have HC:Hid (∀ m os,Calls Tryz.prog 161 #[.agg #[.int .i64 a,.int .i64 b]] (Go.Sort.grow ((wr.alloc (.cells #[.int .i64 a,.int .i64 b] 67)).drewN m) os) fun e w'=>e = .returned (.bool true)∧Grown (Go.Sort.grow ((wr.alloc (.cells #[.int .i64 a,.int .i64 b] 67)).drewN m) os) w'):=fun m os=>by have:=whole_any a b _ (HT.out m os);rw [HW.out] at this;exact this
      have HW2:Hid (Whole (a,b)):=hw
      clear HW HT
      clear hw
      by_cases h0:k=0
      · have HS:Hid (Good (l.take (k+1))):=hS.out.2 ⟨hG.out,HW2.out,fun h=>by omega⟩
        subst h0
        rw [Nat.zero_mul,Nat.add_zero] at ca cb
        clear hS hG HW2
        go_wp2
        refine wp_region_quiet_grown hm (by kernel_rfl) ?_
        repeat (go_big_quiet_step ((go_at_call 161;exact grown_of (HC.out _ _))))
        refine wpQuiet_nil ?_
        intro _ hw'
        obtain ⟨⟨nq,osq⟩,hw''⟩:=hw'
        subst hw''
        go_wp2
        exact ⟨⟨1,rfl,by omega,HS,(hB.alloc _).quiet _ _⟩,by simp [intOf];omega⟩
      · obtain ⟨j,hj⟩:∃ j,k=j+1:=⟨k - 1,by omega⟩
        have hjl:j<l.length:=by omega
        have hq:(k:Int) - 1=(j:Int):=by omega
        have hk1:(0:Int)<(k:Int):=by omega
        have hk2:0<k:=by omega
        have hj0:(0:Int)≤(j:Int):=by omega
        have hj1:(j:Int)<(n:Int):=by omega
        obtain ⟨p,hp⟩:∃ p,(rg l j).2=p:=⟨_,rfl⟩
        have cp:=hB.cellv (HH.out j hjl).2
        rw [hp] at cp
        have e2:∀ m os,(Go.Sort.grow ((wr.alloc (.cells #[.int .i64 a,.int .i64 b] 67)).drewN m) os).cell? ⟨g,o+j*2+1,none⟩=some (.int .i64 p):=fun m os=>(((Grown.refl _).alloc _).quiet m os).cellv cp
        have hpw:Whole (rg l j):=by
         refine hG.out.1 _ ?_
         rw [rg_lt hjl,List.mem_take_iff_getElem]
         exact ⟨j,by omega,rfl⟩
        have ha0:0≤a∧a≤1114367:=by have:=HW2.out;rw [whole_iff] at this;omega
        have hp0:0≤p∧p≤1114367:=by have h1:=hpw.1;have h2:=hpw.2;rw [hp] at h1 h2;omega
        have hS':Hid (Good (l.take (k+1))↔p+2≤a):=by
         have:=hS.out
         rw [show k - 1=j by omega,hp] at this
         rw [this]
         exact ⟨fun h=>h.2.2 (by omega),fun h=>⟨hG.out,HW2.out,fun _=>h⟩⟩
        obtain ⟨ha1,ha2⟩:=ha0
        obtain ⟨hp1,hp2⟩:=hp0
        clear hS hG HW2 hp hpw cp hjl
        have HJ:Hid (k=j+1):=hj
        clear hj h0
        by_cases h2:a - p<2
        · go_wp2
          refine wp_region_quiet_grown hm (by kernel_rfl) ?_
          repeat (go_big_quiet_step ((go_at_call 161;exact grown_of (HC.out _ _))))
          refine wpQuiet_nil ?_
          intro _ hw'
          obtain ⟨⟨nq,osq⟩,hw''⟩:=hw'
          subst hw''
          go_wp2
          go_ret
          have hrf:r=false:=by
           rw [←HR.out]
           refine validB_no fun hv => ?_
           have:=hS'.out.1 (good_take hv.2 (k+1))
           omega
          exact ⟨by first | rfl | (rw [hrf];rfl),(hB.alloc _).quiet _ _⟩
        · have hd2:decide (a - p<2)=false:=by simp;omega
          go_wp2
          refine wp_region_quiet_grown hm (by kernel_rfl) ?_
          repeat (go_big_quiet_step ((go_at_call 161;exact grown_of (HC.out _ _))))
          refine wpQuiet_nil ?_
          intro _ hw'
          obtain ⟨⟨nq,osq⟩,hw''⟩:=hw'
          subst hw''
          go_wp2
          exact ⟨⟨k+1,by go_num,by omega,hS'.out.2 (by omega),(hB.alloc _).quiet _ _⟩,by simp [intOf];omega⟩
    · have HW:Hid (decide (Whole (a,b))=false):=decide_eq_false hw
      have HC:Hid (∀ m os,Calls Tryz.prog 161 #[.agg #[.int .i64 a,.int .i64 b]] (Go.Sort.grow ((wr.alloc (.cells #[.int .i64 a,.int .i64 b] 67)).drewN m) os) fun e w'=>e = .returned (.bool false)∧Grown (Go.Sort.grow ((wr.alloc (.cells #[.int .i64 a,.int .i64 b] 67)).drewN m) os) w'):=fun m os=>by have:=whole_any a b _ (HT.out m os);rw [HW.out] at this;exact this
      have hrf:r=false:=by
       rw [←HR.out]
       refine validB_no fun hv => ?_
       exact hw (hS.out.1 (good_take hv.2 (k+1))).2.1
      have HF:Hid (r=false):=hrf
      clear HW HT hw hS hG hrf
      go_wp2
      refine wp_region_quiet_grown hm (by kernel_rfl) ?_
      repeat (go_big_quiet_step ((go_at_call 161;exact grown_of (HC.out _ _))))
      refine wpQuiet_nil ?_
      intro _ hw'
      obtain ⟨⟨nq,osq⟩,hw''⟩:=hw'
      subst hw''
      go_wp2
      go_ret
      have hrf:=HF.out
      exact ⟨by first | rfl | (rw [hrf];rfl),(hB.alloc _).quiet _ _⟩
  · have hrt:r=true:=by
     rw [←HR.out,validB_iff,HN.out]
     have:=hG.out
     rw [List.take_of_length_le (by rw [HN.out];omega)] at this
     exact ⟨hn,this⟩
    have HF:Hid (r=true):=hrt
    clear hG hrt
    go_wp2
    go_ret
    have hrf:=HF.out
    exact ⟨by first | rfl | (rw [hrf];rfl),hB⟩
theorem valid_any (v:Value) (l:List (Int × Int)) (w:World) (hT:Tab w) (h:Rs w v l):Calls Tryz.prog 127 #[v] w fun e w'=>e = .returned (.bool (validB l))∧Grown w w':=by
 obtain ⟨a,cap,rfl,_,h⟩:=h
 by_cases hn:l.length≤512
 · rcases h with rfl | ⟨g,o,rfl,h⟩
   · exact valid_nil a cap w
   · exact valid_walk g o cap l w hT hn h
 · rw [validB_no (fun h=>hn h.1)]
   exact valid_many a l.length cap w (by omega)
end Go.Proofs
namespace Go.Proofs
open Go.RowKit Go.Shelf
set_option maxRecDepth 100000
attribute [local go_sem] Oper.semAt_some
def hasU (l:List (Int × Int)) (u:Int):Prop:=∃ x∈l,x.1≤u∧u≤x.2
instance (l:List (Int × Int)) (u:Int):Decidable (hasU l u):=by unfold hasU;infer_instance
def fnd (l:List (Int × Int)) (u:Int):Nat:=(List.range l.length).countP (fun i => !decide (u≤(rg l i).2))
theorem countP_first (p:Nat→Bool) (n:Nat) (h:∀ a b,a≤b→b<n→p b=true→p a=true):∀ i,i<n→(p i=true↔i<(List.range n).countP p):=by
 induction n with
 | zero=>intro i hi;omega
 | succ n ih=>
  intro i hi
  have ih':=ih (fun a b hab hb=>h a b hab (by omega))
  rw [List.range_succ,List.countP_append]
  have hle:(List.range n).countP p≤n:=by have:=List.countP_le_length (p:=p) (l:=List.range n);simpa using this
  by_cases hp:p n=true
  · have hall:∀ j,j<n→p j=true:=fun j hj=>h j n (by omega) (by omega) hp
    have hn:(List.range n).countP p=n:=by
     have:=List.countP_eq_length.2 (show ∀ a∈List.range n,p a=true from fun a ha=>hall a (by simpa using ha))
     simpa using this
    have h1:p i=true:=h i n (by omega) (by omega) hp
    have hs:List.countP p [n]=1:=by simp [hp]
    rw [hn,hs]
    exact ⟨fun _=>by omega,fun _=>h1⟩
  · have hs:List.countP p [n]=0:=by simp [hp]
    rw [hs,Nat.add_zero]
    by_cases e:i=n
    · subst e
      exact ⟨fun h'=>absurd h' hp,fun h'=>by omega⟩
    · exact ih' i (by omega)
theorem good_rise {l:List (Int × Int)} (h:Good l) {i j:Nat} (hij:i<j) (hj:j<l.length):(rg l i).2+2≤(rg l j).1:=by
 rw [rg_lt hj,rg_lt (show i<l.length by omega)]
 exact List.pairwise_iff_getElem.1 h.2 i j (by omega) hj hij
theorem good_at {l:List (Int × Int)} (h:Good l) {i:Nat} (hi:i<l.length):Whole (rg l i):=by
 rw [rg_lt hi];exact h.1 _ (List.getElem_mem hi)
theorem fnd_lt {l:List (Int × Int)} (h:Good l) (u:Int) {i:Nat} (hi:i<l.length):i<fnd l u↔(rg l i).2<u:=by
 unfold fnd
 rw [←countP_first (fun i => !decide (u≤(rg l i).2)) l.length ?_ i hi]
 · simp
 · intro a b hab hb hp
   by_cases e:a=b
   · subst e;exact hp
   · have h1:=good_rise h (show a<b by omega) hb
     have h2:=(good_at h hb).1
     simp at hp ⊢;omega
theorem fnd_le (l:List (Int × Int)) (u:Int):fnd l u≤l.length:=by
 unfold fnd
 have:=List.countP_le_length (p:=fun i => !decide (u≤(rg l i).2)) (l:=List.range l.length)
 simpa using this
theorem hasU_iff (l:List (Int × Int)) (u:Int):hasU l u↔∃ i,i<l.length∧(rg l i).1≤u∧u≤(rg l i).2:=by
 constructor
 · rintro ⟨x,hx,h⟩
   obtain ⟨i,hi,rfl⟩:=List.getElem_of_mem hx
   exact ⟨i,hi,by rw [rg_lt hi];exact h⟩
 · rintro ⟨i,hi,h⟩
   rw [rg_lt hi] at h
   exact ⟨_,List.getElem_mem hi,h⟩
theorem hasU_end {l:List (Int × Int)} (h:Good l) {u:Int} (he:fnd l u=l.length):¬ hasU l u:=by
 rw [hasU_iff]
 rintro ⟨i,hi,h1,h2⟩
 have:=(fnd_lt h u hi).1 (by omega)
 omega
theorem hasU_in {l:List (Int × Int)} (h:Good l) {u:Int} (he:fnd l u<l.length):hasU l u↔(rg l (fnd l u)).1≤u:=by
 have h0:¬ (rg l (fnd l u)).2<u:=fun k=>by have:=(fnd_lt h u he).2 k;omega
 rw [hasU_iff]
 constructor
 · rintro ⟨i,hi,h1,h2⟩
   by_cases e:i=fnd l u
   · subst e;exact h1
   · by_cases k:i<fnd l u
     · have:=(fnd_lt h u hi).1 k;omega
     · have:=good_rise h (show fnd l u<i by omega) hi
       have:=(good_at h he).1
       omega
 · intro h1
   exact ⟨_,he,h1,by omega⟩
end Go.Proofs
namespace Go.Proofs
open Go.RowKit Go.Shelf
set_option maxRecDepth 100000
attribute [local go_sem] Oper.semAt_some
def tot (l:List (Int × Int)):Int:=(l.map fun x=>x.2 - x.1+1).sum
theorem tot_nil:tot []=0:=rfl
theorem tot_cons (x:Int × Int) (l:List (Int × Int)):tot (x::l)=(x.2 - x.1+1)+tot l:=by simp [tot]
theorem tot_snoc (l:List (Int × Int)) (x:Int × Int):tot (l++[x])=tot l+(x.2 - x.1+1):=by simp [tot]
theorem tot_succ {l:List (Int × Int)} {k:Nat} (hk:k<l.length):tot (l.take (k+1))=tot (l.take k)+((rg l k).2 - (rg l k).1+1):=by
 rw [List.take_succ_eq_append_getElem hk,tot_snoc,rg_lt hk]
theorem tot_bound {l:List (Int × Int)} (h:∀ x∈l,Whole x):0≤tot l∧tot l≤l.length*1114368:=by
 induction l with
 | nil=>simp [tot]
 | cons x l ih=>
  have h1:=ih (fun y hy=>h y (by simp [hy]))
  have h2:=h x (by simp)
  obtain ⟨h3,h4⟩:=h2
  rw [tot_cons]
  simp only [List.length_cons,Int.natCast_add,Int.natCast_one]
  omega
set_option maxHeartbeats 1000000 in
theorem count_walk (g o c:Nat) (l:List (Int × Int)) (w:World) (hn:l.length≤512) (hW:∀ x∈l,Whole x) (h:Reads w g o l) :
 Calls Tryz.prog 171 #[.slice (some ⟨g,o,none⟩) l.length c] w fun e w'=>e = .returned (.int .i64 (tot l))∧Grown w w':=by
 obtain ⟨n,hnn⟩:∃ n,l.length=n:=⟨_,rfl⟩
 have HN:Hid (l.length=n):=hnn
 rw [hnn] at hn ⊢
 obtain ⟨r,hr⟩:∃ r:Int,tot l=r:=⟨_,rfl⟩
 have HR:Hid (tot l=r):=hr
 rw [hr]
 clear hr hnn
 have HH:Hid (Reads w g o l):=h
 have HW:Hid (∀ x∈l,Whole x):=hW
 clear h hW
 go_enter Tryz.func171,Tryz.ntmps171
 go_wp2
 go_loopw [3,8] (fun vt vi wr=>∃ k:Nat,∃ t:Int,vi = .int .i64 k∧vt = .int .i64 t∧k≤n∧Hid (tot (l.take k)=t)∧Grown w wr) (fun _ vi _=>n - (intOf vi).toNat)
 case atStart=>exact ⟨0,0,rfl,rfl,by omega,rfl,Grown.refl _⟩
 case round=>
  obtain ⟨k,t,rfl,rfl,hk,hTt,hB⟩:=hrel
  by_cases hlt:k<n
  · have hlt':(k:Int)<(n:Int):=by omega
    have hpos:(0:Int)≤(k:Int):=by omega
    have hkl:k<l.length:=by rw [HN.out];exact hlt
    obtain ⟨a,b,hab⟩:∃ a b:Int,rg l k=(a,b):=⟨_,_,rfl⟩
    obtain ⟨ca,cb⟩:=HH.out k hkl
    rw [hab] at ca cb
    simp only at ca cb
    have ca:=hB.cellv ca
    have cb:=hB.cellv cb
    have hw:Whole (a,b):=by rw [←hab,rg_lt hkl];exact HW.out _ (List.getElem_mem hkl)
    have hb0:0≤t∧t≤512*1114368:=by
     have:=tot_bound (l:=l.take k) (fun x hx=>HW.out x (List.mem_of_mem_take hx))
     rw [hTt.out,List.length_take] at this
     omega
    obtain ⟨t1,t2⟩:=hb0
    have hab0:a≤b∧0≤a∧b≤1114367:=by rw [whole_iff] at hw;omega
    obtain ⟨a1,a2,a3⟩:=hab0
    have HS:Hid (tot (l.take (k+1))=t+(b - a+1)):=by have:=tot_succ hkl;rw [hTt.out,hab] at this;exact this
    clear hab hTt hw
    go_wp2
    exact ⟨⟨k+1,t+(b - a+1),by go_num,by go_num,by omega,HS,hB.alloc _⟩,by simp [intOf];omega⟩
  · have hrf:t=r:=by
     rw [←HR.out,←hTt.out,List.take_of_length_le (by rw [HN.out];omega)]
    have HF:Hid (t=r):=hrf
    clear hTt hrf
    go_wp2
    go_ret
    exact ⟨by rw [HF.out];rfl,hB⟩
set_option maxHeartbeats 1000000 in
theorem count_nil (a:Option Addr) (c:Nat) (w:World):Calls Tryz.prog 171 #[.slice a 0 c] w fun e w'=>e = .returned (.int .i64 0)∧Grown w w':=by
 go_enter Tryz.func171,Tryz.ntmps171
 go_wp2
 go_loopw [3,8] (fun vt vi wr=>vi = .int .i64 0∧vt = .int .i64 0∧wr=w) (fun _ _ _=>0)
 case atStart=>exact ⟨rfl,rfl,rfl⟩
 case round=>
  obtain ⟨rfl,rfl,rfl⟩:=hrel
  go_wp2
  go_ret
  exact ⟨rfl,Grown.refl _⟩
theorem count_any (v:Value) (l:List (Int × Int)) (w:World) (hn:l.length≤512) (hW:∀ x∈l,Whole x) (h:Rs w v l):Calls Tryz.prog 171 #[v] w fun e w'=>e = .returned (.int .i64 (tot l))∧Grown w w':=by
 obtain ⟨a,c,rfl,_,h⟩:=h
 rcases h with rfl | ⟨g,o,rfl,h⟩
 · exact count_nil a c w
 · exact count_walk g o c l w hn hW h
def lenU (l:List (Int × Int)):Int:=if validB l then tot l else 0
set_option maxHeartbeats 1000000 in
theorem len_any (v:Value) (l:List (Int × Int)) (w:World) (hT:Tab w) (h:Rs w v l):Calls Tryz.prog 141 #[v] w fun e w'=>e = .returned (.int .i64 (lenU l))∧Grown w w':=by
 have HC:Hid (Calls Tryz.prog 127 #[v] w fun e w'=>e = .returned (.bool (validB l))∧Grown w w'):=valid_any v l w hT h
 have HR:Hid (Rs w v l):=h
 clear h
 unfold lenU
 by_cases hv:validB l=true
 · have hv':=(validB_iff l).1 hv
   have HS:Hid (∀ W,Grown w W→Calls Tryz.prog 171 #[v] W fun e w'=>e = .returned (.int .i64 (tot l))∧Grown W w'):=fun W hW=>count_any v l W hv'.1 hv'.2.1 (HR.out.below hW.below (Nat.le_refl _))
   rw [hv] at HC
   rw [if_pos hv]
   generalize tot l=r at HS ⊢
   clear hv hv' HR
   go_enter Tryz.func141,Tryz.ntmps141
   go_wp2_with fail
   refine HC.out.mono ?_
   rintro e w1 ⟨rfl,hb1⟩
   go_wp2_with fail
   refine (HS.out _ hb1).mono ?_
   rintro e w2 ⟨rfl,hb2⟩
   go_wp2
   go_ret
   exact ⟨rfl,hb1.trans hb2⟩
 · have hv':validB l=false:=by simpa using hv
   rw [hv'] at HC
   rw [if_neg hv]
   clear hv hv' HR
   go_enter Tryz.func141,Tryz.ntmps141
   go_wp2_with fail
   refine HC.out.mono ?_
   rintro e w1 ⟨rfl,hb1⟩
   go_wp2
   go_ret
   exact ⟨rfl,hb1⟩
def placeU (l:List (Int × Int)) (u:Int):Int:=tot (l.take (fnd l u))+u - (rg l (fnd l u)).1
def nthL:List (Int × Int)→Int→Option Int
 | [],_=>none
 | x::r,n=>if n<x.2 - x.1+1 then some (x.1+n) else nthL r (n - (x.2 - x.1+1))
theorem drop_rg {l:List (Int × Int)} {k:Nat} (hk:k<l.length):l.drop k=rg l k::l.drop (k+1):=by
 rw [rg_lt hk,List.drop_eq_getElem_cons hk]
def nthU (l:List (Int × Int)) (n:Int):Option Int:=if n<0∨validB l=false then none else nthL l n
end Go.Proofs
