/-
  Several texts in one (Vcn Vdn).
-/
import Derived.RangeFuncNested
import Derived.RangeFuncBound
import Derived.RangeFuncCalls
import Derived.RangeFuncLeaves
import Derived.Shelf.Abstract
import Derived.Shelf.RegionOpen
import Derived.WalkKit
import Derived.WalkSpells
import Derived.WalkLawsBesides
import Derived.OwnWalkIn
import Derived.TacticsInMore
import Derived.LoopNIn
import Derived.LoopIn
import Derived.BigQuiet
import Derived.RegionIn
import Derived.Deep.QuietTactic
import Derived.Deep.RegionWith
import Derived.Lib.OthersKept
import Derived.Maps.AppendAt
import Derived.Lib.SmallJoins
import Derived.Test.YtcfcjljapamcoaaGreatDoorMpan
import Derived.Test.YtcfcjljapamcoaaGreatDoorVbn
namespace Go.Proofs
open Go.RowKit Go.Shelf
set_option maxRecDepth 100000
attribute [local go_sem] Oper.semAt_some
def hasU (l:List (Int × Int)) (u:Int):Prop:=∃ x∈l,x.1≤u∧u≤x.2
instance (l:List (Int × Int)) (u:Int):Decidable (hasU l u):=by unfold hasU;infer_instance
def fnd (l:List (Int × Int)) (u:Int):Nat:=(List.range l.length).countP (fun i => !decide (u≤(rg l i).2))
theorem countP_first (p:Nat→Bool) (n:Nat) (h:∀ a b,a≤b→b<n→p b=true→p a=true):∀ i,i<n→(p i=true↔i<(List.range n).countP p):=by
 induction n with
 | zero=>intro i hi;omega
 | succ n ih=>
  intro i hi
  have ih':=ih (fun a b hab hb=>h a b hab (by omega))
  rw [List.range_succ,List.countP_append]
  have hle:(List.range n).countP p≤n:=by have:=List.countP_le_length (p:=p) (l:=List.range n);simpa using this
  by_cases hp:p n=true
  · have hall:∀ j,j<n→p j=true:=fun j hj=>h j n (by omega) (by omega) hp
    have hn:(List.range n).countP p=n:=by
     have:=List.countP_eq_length.2 (show ∀ a∈List.range n,p a=true from fun a ha=>hall a (by simpa using ha))
     simpa using this
    have h1:p i=true:=h i n (by omega) (by omega) hp
    have hs:List.countP p [n]=1:=by simp [hp]
    rw [hn,hs]
    exact ⟨fun _=>by omega,fun _=>h1⟩
  · have hs:List.countP p [n]=0:=by simp [hp]
    rw [hs,Nat.add_zero]
    by_cases e:i=n
    · subst e
      exact ⟨fun h'=>absurd h' hp,fun h'=>by omega⟩
    · exact ih' i (by omega)
theorem fnd_le (l:List (Int × Int)) (u:Int):fnd l u≤l.length:=by
 unfold fnd
 have:=List.countP_le_length (p:=fun i => !decide (u≤(rg l i).2)) (l:=List.range l.length)
 simpa using this
end Go.Proofs
namespace Go.Proofs
open Go.RowKit Go.Shelf
set_option maxRecDepth 100000
attribute [local go_sem] Oper.semAt_some
def tot (l:List (Int × Int)):Int:=(l.map fun x=>x.2 - x.1+1).sum
theorem tot_cons (x:Int × Int) (l:List (Int × Int)):tot (x::l)=(x.2 - x.1+1)+tot l:=by simp [tot]
theorem tot_snoc (l:List (Int × Int)) (x:Int × Int):tot (l++[x])=tot l+(x.2 - x.1+1):=by simp [tot]
theorem tot_succ {l:List (Int × Int)} {k:Nat} (hk:k<l.length):tot (l.take (k+1))=tot (l.take k)+((rg l k).2 - (rg l k).1+1):=by
 rw [List.take_succ_eq_append_getElem hk,tot_snoc,rg_lt hk]
theorem tot_bound {l:List (Int × Int)} (h:∀ x∈l,Whole x):0≤tot l∧tot l≤l.length*1114368:=by
 induction l with
 | nil=>simp [tot]
 | cons x l ih=>
  have h1:=ih (fun y hy=>h y (by simp [hy]))
  have h2:=h x (by simp)
  obtain ⟨h3,h4⟩:=h2
  rw [tot_cons]
  simp only [List.length_cons,Int.natCast_add,Int.natCast_one]
  omega
set_option maxHeartbeats 1000000 in
theorem count_walk (g o c:Nat) (l:List (Int × Int)) (w:World) (hn:l.length≤512) (hW:∀ x∈l,Whole x) (h:Reads w g o l) :
 Calls Tryz.prog 171 #[.slice (some ⟨g,o,none⟩) l.length c] w fun e w'=>e = .returned (.int .i64 (tot l))∧Grown w w':=by
 obtain ⟨n,hnn⟩:∃ n,l.length=n:=⟨_,rfl⟩
 have HN:Hid (l.length=n):=hnn
 rw [hnn] at hn ⊢
 obtain ⟨r,hr⟩:∃ r:Int,tot l=r:=⟨_,rfl⟩
 have HR:Hid (tot l=r):=hr
 rw [hr]
 clear hr hnn
 have HH:Hid (Reads w g o l):=h
 have HW:Hid (∀ x∈l,Whole x):=hW
 clear h hW
 go_enter Tryz.func171,Tryz.ntmps171
 go_wp2
 go_loopw [3,8] (fun vt vi wr=>∃ k:Nat,∃ t:Int,vi = .int .i64 k∧vt = .int .i64 t∧k≤n∧Hid (tot (l.take k)=t)∧Grown w wr) (fun _ vi _=>n - (intOf vi).toNat)
 case atStart=>exact ⟨0,0,rfl,rfl,by omega,rfl,Grown.refl _⟩
 case round=>
  obtain ⟨k,t,rfl,rfl,hk,hTt,hB⟩:=hrel
  by_cases hlt:k<n
  · have hlt':(k:Int)<(n:Int):=by omega
    have hpos:(0:Int)≤(k:Int):=by omega
    have hkl:k<l.length:=by rw [HN.out];exact hlt
    obtain ⟨a,b,hab⟩:∃ a b:Int,rg l k=(a,b):=⟨_,_,rfl⟩
    obtain ⟨ca,cb⟩:=HH.out k hkl
    rw [hab] at ca cb
    simp only at ca cb
    have ca:=hB.cellv ca
    have cb:=hB.cellv cb
    have hw:Whole (a,b):=by rw [←hab,rg_lt hkl];exact HW.out _ (List.getElem_mem hkl)
    have hb0:0≤t∧t≤512*1114368:=by
     have:=tot_bound (l:=l.take k) (fun x hx=>HW.out x (List.mem_of_mem_take hx))
     rw [hTt.out,List.length_take] at this
     omega
    obtain ⟨t1,t2⟩:=hb0
    have hab0:a≤b∧0≤a∧b≤1114367:=by rw [whole_iff] at hw;omega
    obtain ⟨a1,a2,a3⟩:=hab0
    have HS:Hid (tot (l.take (k+1))=t+(b - a+1)):=by have:=tot_succ hkl;rw [hTt.out,hab] at this;exact this
    clear hab hTt hw
    go_wp2
    exact ⟨⟨k+1,t+(b - a+1),by go_num,by go_num,by omega,HS,hB.alloc _⟩,by simp [intOf];omega⟩
  · have hrf:t=r:=by
     rw [←HR.out,←hTt.out,List.take_of_length_le (by rw [HN.out];omega)]
    have HF:Hid (t=r):=hrf
    clear hTt hrf
    go_wp2
    go_ret
    exact ⟨by rw [HF.out];rfl,hB⟩
set_option maxHeartbeats 1000000 in
theorem count_nil (a:Option Addr) (c:Nat) (w:World):Calls Tryz.prog 171 #[.slice a 0 c] w fun e w'=>e = .returned (.int .i64 0)∧Grown w w':=by
 go_enter Tryz.func171,Tryz.ntmps171
 go_wp2
 go_loopw [3,8] (fun vt vi wr=>vi = .int .i64 0∧vt = .int .i64 0∧wr=w) (fun _ _ _=>0)
 case atStart=>exact ⟨rfl,rfl,rfl⟩
 case round=>
  obtain ⟨rfl,rfl,rfl⟩:=hrel
  go_wp2
  go_ret
  exact ⟨rfl,Grown.refl _⟩
theorem count_any (v:Value) (l:List (Int × Int)) (w:World) (hn:l.length≤512) (hW:∀ x∈l,Whole x) (h:Rs w v l):Calls Tryz.prog 171 #[v] w fun e w'=>e = .returned (.int .i64 (tot l))∧Grown w w':=by
 obtain ⟨a,c,rfl,_,h⟩:=h
 rcases h with rfl | ⟨g,o,rfl,h⟩
 · exact count_nil a c w
 · exact count_walk g o c l w hn hW h
def lenU (l:List (Int × Int)):Int:=if validB l then tot l else 0
set_option maxHeartbeats 1000000 in
theorem len_any (v:Value) (l:List (Int × Int)) (w:World) (hT:Tab w) (h:Rs w v l):Calls Tryz.prog 141 #[v] w fun e w'=>e = .returned (.int .i64 (lenU l))∧Grown w w':=by
 have HC:Hid (Calls Tryz.prog 127 #[v] w fun e w'=>e = .returned (.bool (validB l))∧Grown w w'):=valid_any v l w hT h
 have HR:Hid (Rs w v l):=h
 clear h
 unfold lenU
 by_cases hv:validB l=true
 · have hv':=(validB_iff l).1 hv
   have HS:Hid (∀ W,Grown w W→Calls Tryz.prog 171 #[v] W fun e w'=>e = .returned (.int .i64 (tot l))∧Grown W w'):=fun W hW=>count_any v l W hv'.1 hv'.2.1 (HR.out.below hW.below (Nat.le_refl _))
   rw [hv] at HC
   rw [if_pos hv]
   generalize tot l=r at HS ⊢
   clear hv hv' HR
   go_enter Tryz.func141,Tryz.ntmps141
   go_wp2_with fail
   refine HC.out.mono ?_
   rintro e w1 ⟨rfl,hb1⟩
   go_wp2_with fail
   refine (HS.out _ hb1).mono ?_
   rintro e w2 ⟨rfl,hb2⟩
   go_wp2
   go_ret
   exact ⟨rfl,hb1.trans hb2⟩
 · have hv':validB l=false:=by simpa using hv
   rw [hv'] at HC
   rw [if_neg hv]
   clear hv hv' HR
   go_enter Tryz.func141,Tryz.ntmps141
   go_wp2_with fail
   refine HC.out.mono ?_
   rintro e w1 ⟨rfl,hb1⟩
   go_wp2
   go_ret
   exact ⟨rfl,hb1⟩
end Go.Proofs
