/-
  Several texts in one (Vdr Ver).
-/
import Derived.RangeFuncNested
import Derived.RangeFuncBound
import Derived.RangeFuncCalls
import Derived.RangeFuncLeaves
import Derived.Shelf.Abstract
import Derived.Shelf.RegionOpen
import Derived.WalkKit
import Derived.WalkSpells
import Derived.WalkLawsBesides
import Derived.OwnWalkIn
import Derived.TacticsInMore
import Derived.LoopNIn
import Derived.LoopIn
import Derived.BigQuiet
import Derived.RegionIn
import Derived.Deep.QuietTactic
import Derived.Deep.RegionWith
import Derived.Lib.OthersKept
import Derived.Maps.AppendAt
import Derived.Lib.SmallJoins
import Derived.Test.YtcfcjljapamcoabGreatDoorVcr
namespace Go.Proofs
open Go.RowKit Go.Shelf
set_option maxRecDepth 100000
attribute [local go_sem] Oper.semAt_some
set_option maxHeartbeats 1000000 in
theorem has_any (v:Value) (l:List (Int × Int)) (u:Int) (w:World) (hT:Tab w) (h:Rs w v l):Calls Tryz.prog 15 #[v,.int .i64 u] w fun e w'=>e = .returned (.bool (validB l && decide (hasU l u)))∧Grown w w':=by
 have HC:Hid (Calls Tryz.prog 26 #[v,.int .i64 u] w fun e w'=>e = .returned (.tuple #[.int .i64 (if validB l then (fnd l u:Int) else 0),.bool (validB l && decide (hasU l u))])∧Grown w w'):=find_any v l u w hT h
 generalize (if validB l then (fnd l u:Int) else 0)=a at HC
 generalize (validB l && decide (hasU l u))=b at HC ⊢
 clear h
 go_enter Tryz.func15,Tryz.ntmps15
 go_wp2_with (go_at_call 26;refine HC.out.mono ?_;rintro e w' ⟨rfl,hb⟩)
 go_ret
 exact ⟨rfl,hb⟩
def tot (l:List (Int × Int)):Int:=(l.map fun x=>x.2 - x.1+1).sum
theorem tot_nil:tot []=0:=rfl
theorem tot_cons (x:Int × Int) (l:List (Int × Int)):tot (x::l)=(x.2 - x.1+1)+tot l:=by simp [tot]
theorem tot_snoc (l:List (Int × Int)) (x:Int × Int):tot (l++[x])=tot l+(x.2 - x.1+1):=by simp [tot]
theorem tot_succ {l:List (Int × Int)} {k:Nat} (hk:k<l.length):tot (l.take (k+1))=tot (l.take k)+((rg l k).2 - (rg l k).1+1):=by
 rw [List.take_succ_eq_append_getElem hk,tot_snoc,rg_lt hk]
theorem tot_bound {l:List (Int × Int)} (h:∀ x∈l,Whole x):0≤tot l∧tot l≤l.length*1114368:=by
 induction l with
 | nil=>simp [tot]
 | cons x l ih=>
  have h1:=ih (fun y hy=>h y (by simp [hy]))
  have h2:=h x (by simp)
  obtain ⟨h3,h4⟩:=h2
  rw [tot_cons]
  simp only [List.length_cons,Int.natCast_add,Int.natCast_one]
  omega
set_option maxHeartbeats 1000000 in
theorem count_walk (g o c:Nat) (l:List (Int × Int)) (w:World) (hn:l.length≤512) (hW:∀ x∈l,Whole x) (h:Reads w g o l) :
 Calls Tryz.prog 137 #[.slice (some ⟨g,o,none⟩) l.length c] w fun e w'=>e = .returned (.int .i64 (tot l))∧Grown w w':=by
 obtain ⟨n,hnn⟩:∃ n,l.length=n:=⟨_,rfl⟩
 have HN:Hid (l.length=n):=hnn
 rw [hnn] at hn ⊢
 obtain ⟨r,hr⟩:∃ r:Int,tot l=r:=⟨_,rfl⟩
 have HR:Hid (tot l=r):=hr
 rw [hr]
 clear hr hnn
 have HH:Hid (Reads w g o l):=h
 have HW:Hid (∀ x∈l,Whole x):=hW
 clear h hW
 go_enter Tryz.func137,Tryz.ntmps137
 go_wp2
 go_loopw [3,8] (fun vt vi wr=>∃ k:Nat,∃ t:Int,vi = .int .i64 k∧vt = .int .i64 t∧k≤n∧Hid (tot (l.take k)=t)∧Grown w wr) (fun _ vi _=>n - (intOf vi).toNat)
 case atStart=>exact ⟨0,0,rfl,rfl,by omega,rfl,Grown.refl _⟩
 case round=>
  obtain ⟨k,t,rfl,rfl,hk,hTt,hB⟩:=hrel
  by_cases hlt:k<n
  · have hlt':(k:Int)<(n:Int):=by omega
    have hpos:(0:Int)≤(k:Int):=by omega
    have hkl:k<l.length:=by rw [HN.out];exact hlt
    obtain ⟨a,b,hab⟩:∃ a b:Int,rg l k=(a,b):=⟨_,_,rfl⟩
    obtain ⟨ca,cb⟩:=HH.out k hkl
    rw [hab] at ca cb
    simp only at ca cb
    have ca:=hB.cellv ca
    have cb:=hB.cellv cb
    have hw:Whole (a,b):=by rw [←hab,rg_lt hkl];exact HW.out _ (List.getElem_mem hkl)
    have hb0:0≤t∧t≤512*1114368:=by
     have:=tot_bound (l:=l.take k) (fun x hx=>HW.out x (List.mem_of_mem_take hx))
     rw [hTt.out,List.length_take] at this
     omega
    obtain ⟨t1,t2⟩:=hb0
    have hab0:a≤b∧0≤a∧b≤1114367:=by rw [whole_iff] at hw;omega
    obtain ⟨a1,a2,a3⟩:=hab0
    have HS:Hid (tot (l.take (k+1))=t+(b - a+1)):=by have:=tot_succ hkl;rw [hTt.out,hab] at this;exact this
    clear hab hTt hw
    go_wp2
    exact ⟨⟨k+1,t+(b - a+1),by go_num,by go_num,by omega,HS,hB.alloc _⟩,by simp [intOf];omega⟩
  · have hrf:t=r:=by
     rw [←HR.out,←hTt.out,List.take_of_length_le (by rw [HN.out];omega)]
    have HF:Hid (t=r):=hrf
    clear hTt hrf
    go_wp2
    go_ret
    exact ⟨by rw [HF.out];rfl,hB⟩
set_option maxHeartbeats 1000000 in
theorem count_nil (a:Option Addr) (c:Nat) (w:World):Calls Tryz.prog 137 #[.slice a 0 c] w fun e w'=>e = .returned (.int .i64 0)∧Grown w w':=by
 go_enter Tryz.func137,Tryz.ntmps137
 go_wp2
 go_loopw [3,8] (fun vt vi wr=>vi = .int .i64 0∧vt = .int .i64 0∧wr=w) (fun _ _ _=>0)
 case atStart=>exact ⟨rfl,rfl,rfl⟩
 case round=>
  obtain ⟨rfl,rfl,rfl⟩:=hrel
  go_wp2
  go_ret
  exact ⟨rfl,Grown.refl _⟩
theorem count_any (v:Value) (l:List (Int × Int)) (w:World) (hn:l.length≤512) (hW:∀ x∈l,Whole x) (h:Rs w v l):Calls Tryz.prog 137 #[v] w fun e w'=>e = .returned (.int .i64 (tot l))∧Grown w w':=by
 obtain ⟨a,c,rfl,_,h⟩:=h
 rcases h with rfl | ⟨g,o,rfl,h⟩
 · exact count_nil a c w
 · exact count_walk g o c l w hn hW h
def lenU (l:List (Int × Int)):Int:=if validB l then tot l else 0
set_option maxHeartbeats 1000000 in
theorem len_any (v:Value) (l:List (Int × Int)) (w:World) (hT:Tab w) (h:Rs w v l):Calls Tryz.prog 111 #[v] w fun e w'=>e = .returned (.int .i64 (lenU l))∧Grown w w':=by
 have HC:Hid (Calls Tryz.prog 38 #[v] w fun e w'=>e = .returned (.bool (validB l))∧Grown w w'):=valid_any v l w hT h
 have HR:Hid (Rs w v l):=h
 clear h
 unfold lenU
 by_cases hv:validB l=true
 · have hv':=(validB_iff l).1 hv
   have HS:Hid (∀ W,Grown w W→Calls Tryz.prog 137 #[v] W fun e w'=>e = .returned (.int .i64 (tot l))∧Grown W w'):=fun W hW=>count_any v l W hv'.1 hv'.2.1 (HR.out.below hW.below (Nat.le_refl _))
   rw [hv] at HC
   rw [if_pos hv]
   generalize tot l=r at HS ⊢
   clear hv hv' HR
   go_enter Tryz.func111,Tryz.ntmps111
   go_wp2_with fail
   refine HC.out.mono ?_
   rintro e w1 ⟨rfl,hb1⟩
   go_wp2_with fail
   refine (HS.out _ hb1).mono ?_
   rintro e w2 ⟨rfl,hb2⟩
   go_wp2
   go_ret
   exact ⟨rfl,hb1.trans hb2⟩
 · have hv':validB l=false:=by simpa using hv
   rw [hv'] at HC
   rw [if_neg hv]
   clear hv hv' HR
   go_enter Tryz.func111,Tryz.ntmps111
   go_wp2_with fail
   refine HC.out.mono ?_
   rintro e w1 ⟨rfl,hb1⟩
   go_wp2
   go_ret
   exact ⟨rfl,hb1⟩
def placeU (l:List (Int × Int)) (u:Int):Int:=tot (l.take (fnd l u))+u - (rg l (fnd l u)).1
theorem Reads.take {w:World} {g o:Nat} {l:List (Int × Int)} (h:Reads w g o l) (k:Nat):Reads w g o (l.take k):=fun j hj=>by
 rw [List.length_take] at hj
 have:=h j (by omega)
 rwa [show rg (l.take k) j=rg l j by simp only [rg];rw [List.getElem?_take_of_lt (by omega)]]
theorem Rs.take {w:World} {g o n c:Nat} {l:List (Int × Int)} (h:Rs w (.slice (some ⟨g,o,none⟩) n c) l) {k:Nat} (hk:k≤l.length):Rs w (.slice (some ⟨g,o,none⟩) k k) (l.take k):=by
 obtain ⟨a,cap,hs,hcp,h⟩:=h
 refine ⟨some ⟨g,o,none⟩,k,by rw [List.length_take,Nat.min_eq_left hk],by rw [List.length_take];omega,?_⟩
 rcases h with rfl | ⟨g',o',rfl,h⟩
 · exact .inl (by simp)
 · cases hs;exact .inr ⟨g,o,rfl,h.take k⟩
def nthL:List (Int × Int)→Int→Option Int
 | [],_=>none
 | x::r,n=>if n<x.2 - x.1+1 then some (x.1+n) else nthL r (n - (x.2 - x.1+1))
theorem drop_rg {l:List (Int × Int)} {k:Nat} (hk:k<l.length):l.drop k=rg l k::l.drop (k+1):=by
 rw [rg_lt hk,List.drop_eq_getElem_cons hk]
def nthU (l:List (Int × Int)) (n:Int):Option Int:=if n<0∨validB l=false then none else nthL l n
end Go.Proofs
namespace Go.Proofs
open Go.RowKit Go.Shelf
set_option maxRecDepth 100000
attribute [local go_sem] Oper.semAt_some
def fl (l:List (Int × Int)):List Value:=l.flatMap fun x=>[Value.int .i64 x.1,Value.int .i64 x.2]
theorem fl_append (l k:List (Int × Int)):fl (l++k)=fl l++fl k:=by simp [fl]
theorem fl_length (l:List (Int × Int)):(fl l).length=l.length*2:=by
 induction l with
 | nil=>rfl
 | cons a l ih=>simp [fl] at ih ⊢;omega
theorem fl_at (l:List (Int × Int)) {j:Nat} (hj:j<l.length):(fl l)[j*2]? = some (Value.int .i64 (rg l j).1)∧(fl l)[j*2+1]? = some (Value.int .i64 (rg l j).2):=by
 induction l generalizing j with
 | nil=>simp at hj
 | cons a l ih=>
  cases j with
  | zero=>exact ⟨by simp [fl,rg],by simp [fl,rg]⟩
  | succ j=>
   have:=ih (j:=j) (by simpa using hj)
   rw [show (j+1)*2=j*2+1+1 by omega]
   simpa [fl,rg] using this
theorem fl_one (l:List (Int × Int)):∀ u∈fl l,u.oneCell'=true:=by
 intro u hu
 simp only [fl,List.mem_flatMap] at hu
 obtain ⟨x,_,hx⟩:=hu
 simp only [List.mem_cons,List.not_mem_nil,or_false] at hx
 rcases hx with rfl | rfl <;> rfl
def OwnR (w:World) (base:Nat) (v:Value) (l:List (Int × Int)):Prop:=w.ownsRow base 55 2 v l.length (fl l)
theorem OwnR.nil (w:World) (base:Nat):OwnR w base (.slice none 0 0) []:=World.ownsRow_nil _ _ _ _
theorem add_zero_at (g j:Nat):(⟨g,0,none⟩:Addr).add j=⟨g,j,none⟩:=by
 unfold Addr.add
 by_cases h:j=0
 · subst h;rfl
 · simp [h]
theorem OwnR.reads {w:World} {base g n cap:Nat} {l:List (Int × Int)} (h:OwnR w base (.slice (some ⟨g,0,none⟩) n cap) l):Reads w g 0 l:=fun j hj=>by
 have h1:=h.cells rfl
 have:=fl_at l hj
 have a1:=h1 _ _ this.1
 have a2:=h1 _ _ this.2
 rw [add_zero_at] at a1 a2
 rw [Nat.zero_add]
 exact ⟨a1,a2⟩
theorem OwnR.rs {w:World} {base:Nat} {v:Value} {l:List (Int × Int)} (h:OwnR w base v l):Rs w v l:=by
 rcases h.2 with ⟨rfl,h0⟩ | ⟨g,cap,cur,rfl,_,_,hc,_⟩
 · have:l=[]:=List.eq_nil_of_length_eq_zero h0
   subst this
   exact ⟨none,0,rfl,Nat.le_refl _,.inl rfl⟩
 · exact ⟨_,cap,rfl,hc,.inr ⟨g,0,rfl,OwnR.reads h⟩⟩
theorem OwnR.le {w:World} {base base':Nat} {v:Value} {l:List (Int × Int)} (h:OwnR w base v l) (hb:base'≤base):OwnR w base' v l:=Joins.ownsRow_le h hb
theorem OwnR.alloc {w:World} {base:Nat} {v:Value} {l:List (Int × Int)} (h:OwnR w base v l) (o:Obj):OwnR (w.alloc o) base v l:=World.ownsRow.alloc h o
theorem info38:(Tryz.prog.info? 55).map (fun i=>(i.zero,i.size,i.bytes))=some (some (.agg #[.int .i64 0,.int .i64 0]),2,16):=by kernel_rfl
theorem own_below {w w':World} {base:Nat} {v:Value} {l:List (Int × Int)} (h:OwnR w base v l) (hb:base≤w.heap.size) (hg:w.grownBy w' v.ownBlock):Below base w w':=(Below.refl _ w).grown hg hb (fun k hk=>(World.ownsRow.lt h k hk).1)
theorem push_R {ops:Array Oper} {rest:List Oper} {o:Oper} {a:Act} {Q:Exit→Act→World→Prop} {w:World} (hgd:o.guard=none) (s x:Operand) (t:TypeId)
 (ho:o.op = .call { callee := .builtin .append,args:=#[s,x],argTypes:=#[t,t] }) (ht:Tryz.prog.underlying t=some (.slice 55))
 (base:Nat) (v:Value) (l:List (Int × Int)) (hs:a.eval s=v) (hown:OwnR w base v l) (g c:Nat) (p q:Int) (hx:a.eval x = .slice (some ⟨g,0,none⟩) 1 c)
 (hp:w.cell? ⟨g,0,none⟩=some (.int .i64 p)) (hq:w.cell? ⟨g,1,none⟩=some (.int .i64 q)) (hl:l.length+1≤8796093022208) (hbase:base≤w.heap.size)
 (h:∀ v' w',OwnR w' base v' (l++[(p,q)])→w.grownBy w' v.ownBlock→Below base w w'→wpList Tryz.prog ops Q rest (a.put o.dst v') w'):wpList Tryz.prog ops Q (o::rest) a w:=by
 obtain ⟨i0,hi,hz0,hz1,hz2⟩:=info_parts info38
 refine wpList_append_own w hgd s x t ho base 55 i0 (.agg #[.int .i64 0,.int .i64 0]) 2 16 ht hi hz0 hz1 hz2 rfl (by decide) v l.length (fl l) hs hown ⟨g,0,none⟩ 1 c (fl [(p,q)]) hx rfl ?_ (fl_one _) (by unfold maxLen;omega) (by omega) hbase (fun v' w' h2 h3 _=>h v' w' ?_ h3 (own_below hown hbase h3))
 · intro j u hj
   match j,hj with
   | 0,hj=>simp [fl] at hj;subst hj;exact hp
   | 1,hj=>simp [fl] at hj;subst hj;exact hq
 · unfold OwnR
   rw [fl_append,List.length_append]
   exact h2
def allU:List (Int × Int):=[(0,55295),(57344,1114111),(1114240,1114367)]
end Go.Proofs
