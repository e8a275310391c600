/-
  find: which range of a set has a unit, and whether one has it.
-/
import Derived.RangeFuncNested
import Derived.RangeFuncBound
import Derived.RangeFuncCalls
import Derived.RangeFuncLeaves
import Derived.Shelf.Abstract
import Derived.Shelf.RegionOpen
import Derived.WalkKit
import Derived.WalkSpells
import Derived.WalkLawsBesides
import Derived.OwnWalkIn
import Derived.TacticsInMore
import Derived.LoopNIn
import Derived.LoopIn
import Derived.BigQuiet
import Derived.RegionIn
import Derived.Deep.QuietTactic
import Derived.Deep.RegionWith
import Derived.Lib.OthersKept
import Derived.Maps.AppendAt
import Derived.Lib.SmallJoins
import Derived.Test.YtcfcjljapamcoabGreatDoorMpbr
import Derived.Test.YtcfcjljapamcoabGreatDoorVbr
namespace Go.Proofs
open Go.RowKit Go.Shelf
set_option maxRecDepth 100000
attribute [local go_sem] Oper.semAt_some
def hasU (l:List (Int × Int)) (u:Int):Prop:=∃ x∈l,x.1≤u∧u≤x.2
instance (l:List (Int × Int)) (u:Int):Decidable (hasU l u):=by unfold hasU;infer_instance
def fnd (l:List (Int × Int)) (u:Int):Nat:=(List.range l.length).countP (fun i => !decide (u≤(rg l i).2))
theorem countP_first (p:Nat→Bool) (n:Nat) (h:∀ a b,a≤b→b<n→p b=true→p a=true):∀ i,i<n→(p i=true↔i<(List.range n).countP p):=by
 induction n with
 | zero=>intro i hi;omega
 | succ n ih=>
  intro i hi
  have ih':=ih (fun a b hab hb=>h a b hab (by omega))
  rw [List.range_succ,List.countP_append]
  have hle:(List.range n).countP p≤n:=by have:=List.countP_le_length (p:=p) (l:=List.range n);simpa using this
  by_cases hp:p n=true
  · have hall:∀ j,j<n→p j=true:=fun j hj=>h j n (by omega) (by omega) hp
    have hn:(List.range n).countP p=n:=by
     have:=List.countP_eq_length.2 (show ∀ a∈List.range n,p a=true from fun a ha=>hall a (by simpa using ha))
     simpa using this
    have h1:p i=true:=h i n (by omega) (by omega) hp
    have hs:List.countP p [n]=1:=by simp [hp]
    rw [hn,hs]
    exact ⟨fun _=>by omega,fun _=>h1⟩
  · have hs:List.countP p [n]=0:=by simp [hp]
    rw [hs,Nat.add_zero]
    by_cases e:i=n
    · subst e
      exact ⟨fun h'=>absurd h' hp,fun h'=>by omega⟩
    · exact ih' i (by omega)
theorem good_rise {l:List (Int × Int)} (h:Good l) {i j:Nat} (hij:i<j) (hj:j<l.length):(rg l i).2+2≤(rg l j).1:=by
 rw [rg_lt hj,rg_lt (show i<l.length by omega)]
 exact List.pairwise_iff_getElem.1 h.2 i j (by omega) hj hij
theorem good_at {l:List (Int × Int)} (h:Good l) {i:Nat} (hi:i<l.length):Whole (rg l i):=by
 rw [rg_lt hi];exact h.1 _ (List.getElem_mem hi)
theorem fnd_lt {l:List (Int × Int)} (h:Good l) (u:Int) {i:Nat} (hi:i<l.length):i<fnd l u↔(rg l i).2<u:=by
 unfold fnd
 rw [←countP_first (fun i => !decide (u≤(rg l i).2)) l.length ?_ i hi]
 · simp
 · intro a b hab hb hp
   by_cases e:a=b
   · subst e;exact hp
   · have h1:=good_rise h (show a<b by omega) hb
     have h2:=(good_at h hb).1
     simp at hp ⊢;omega
theorem fnd_le (l:List (Int × Int)) (u:Int):fnd l u≤l.length:=by
 unfold fnd
 have:=List.countP_le_length (p:=fun i => !decide (u≤(rg l i).2)) (l:=List.range l.length)
 simpa using this
theorem hasU_iff (l:List (Int × Int)) (u:Int):hasU l u↔∃ i,i<l.length∧(rg l i).1≤u∧u≤(rg l i).2:=by
 constructor
 · rintro ⟨x,hx,h⟩
   obtain ⟨i,hi,rfl⟩:=List.getElem_of_mem hx
   exact ⟨i,hi,by rw [rg_lt hi];exact h⟩
 · rintro ⟨i,hi,h⟩
   rw [rg_lt hi] at h
   exact ⟨_,List.getElem_mem hi,h⟩
theorem hasU_end {l:List (Int × Int)} (h:Good l) {u:Int} (he:fnd l u=l.length):¬ hasU l u:=by
 rw [hasU_iff]
 rintro ⟨i,hi,h1,h2⟩
 have:=(fnd_lt h u hi).1 (by omega)
 omega
theorem hasU_in {l:List (Int × Int)} (h:Good l) {u:Int} (he:fnd l u<l.length):hasU l u↔(rg l (fnd l u)).1≤u:=by
 have h0:¬ (rg l (fnd l u)).2<u:=fun k=>by have:=(fnd_lt h u he).2 k;omega
 rw [hasU_iff]
 constructor
 · rintro ⟨i,hi,h1,h2⟩
   by_cases e:i=fnd l u
   · subst e;exact h1
   · by_cases k:i<fnd l u
     · have:=(fnd_lt h u hi).1 k;omega
     · have:=good_rise h (show fnd l u<i by omega) hi
       have:=(good_at h he).1
       omega
 · intro h1
   exact ⟨_,he,h1,by omega⟩
set_option maxHeartbeats 1000000 in
theorem closure69 (sb ub g o c n:Nat) (u y:Int) (i:Nat) (W:World) (hi:i<n)
 (hs:W.cell? ⟨sb,0,none⟩=some (.slice (some ⟨g,o,none⟩) n c)) (hu:W.cell? ⟨ub,0,none⟩=some (.int .i64 u)) (hc:W.cell? ⟨g,o+i*2+1,none⟩=some (.int .i64 y)) :
 Calls Tryz.prog 40 (#[.int .i64 i]++#[.pointer (some ⟨ub,0,none⟩),.pointer (some ⟨sb,0,none⟩)]) W fun e w'=>e = .returned (.bool (decide (u≤y)))∧∃ q,w'=W.drewN q:=by
 have hiz:(i:Int)<(n:Int):=by omega
 have hi0:(0:Int)≤(i:Int):=by omega
 go_enter Tryz.func40,Tryz.ntmps40
 go_wp2
 go_quiet (fail)
 go_wp2
 go_ret
 exact ⟨by first | rfl | simp,_,rfl⟩
theorem search_any (sb ub:Nat) (a:Option Addr) (c:Nat) (l:List (Int × Int)) (u:Int) (W:World) (hG:Good l) (hn:l.length≤512)
 (hs:W.cell? ⟨sb,0,none⟩=some (.slice a l.length c)) (hu:W.cell? ⟨ub,0,none⟩=some (.int .i64 u)) (hr:l=[]∨∃ g o,a=some ⟨g,o,none⟩∧Reads W g o l) :
 Calls Tryz.prog 39 #[.int .i64 l.length,.func (.func 40) #[] #[.pointer (some ⟨ub,0,none⟩),.pointer (some ⟨sb,0,none⟩)]] W fun e w'=>e = .returned (.int .i64 (fnd l u))∧Grown W w':=by
 have eg:∀ args w,(callFunc 40 args).run Tryz.prog w = .ok (.enter 40 args) w:=enters_of Tryz.func40 (by kernel_rfl) rfl
 exact Any.sort_Search Tryz.search 40 #[.pointer (some ⟨ub,0,none⟩),.pointer (some ⟨sb,0,none⟩)] l.length (fun i=>decide (u≤(rg l i).2)) W eg (by omega)
  (fun m os i hi=>by
   obtain ⟨g,o,rfl,hr2⟩:=hr.resolve_left (fun e=>by rw [e] at hi;simp at hi)
   have hg:Grown W (Go.Sort.grow (W.drewN m) os):=⟨m,os,rfl⟩
   exact (closure69 sb ub g o c l.length u _ i _ hi (hg.cellv hs) (hg.cellv hu) (hg.cellv (hr2 i hi).2)).mono fun _ _ ⟨he,q,hq⟩=>⟨he,q,#[],by rw [hq,Go.Sort.grow_empty]⟩)
  (fun x y hxy hy h=>by
   by_cases e:x=y
   · subst e;exact h
   · have h1:=good_rise hG (show x<y by omega) hy
     have h2:=(good_at hG hy).1
     simp at h ⊢;omega)
set_option maxHeartbeats 1000000 in
theorem find_bad (v:Value) (l:List (Int × Int)) (u:Int) (w:World) (hT:Tab w) (h:Rs w v l) (hv:validB l=false):Calls Tryz.prog 26 #[v,.int .i64 u] w fun e w'=>e = .returned (.tuple #[.int .i64 0,.bool false])∧Grown w w':=by
 have hg:Grown w ((w.alloc (.cells #[v] 39)).alloc (.cells #[.int .i64 u] 3)):=((Grown.refl _).alloc _).alloc _
 have HC:Hid (Calls Tryz.prog 38 #[v] ((w.alloc (.cells #[v] 39)).alloc (.cells #[.int .i64 u] 3)) fun e w'=>e = .returned (.bool false)∧Grown ((w.alloc (.cells #[v] 39)).alloc (.cells #[.int .i64 u] 3)) w'):=by
  have:=valid_any v l _ (hT.grown hg) (h.below hg.below (Nat.le_refl _))
  rw [hv] at this;exact this
 have hd:∀ o,((w.alloc (.cells #[v] 39)).alloc o).cell? ⟨w.heap.size,0,none⟩=some v:=fun o=>cell_up (by simp) o
 obtain ⟨a,cap,rfl,_,h⟩:=h
 clear h hv
 go_enter Tryz.func26,Tryz.ntmps26
 go_wp2_with (go_at_call 38;refine HC.out.mono ?_;rintro e w' ⟨rfl,hb⟩)
 go_ret2
 exact ⟨rfl,hg.trans hb⟩
set_option maxHeartbeats 1000000 in
theorem find_end (a:Option Addr) (c:Nat) (l:List (Int × Int)) (u:Int) (w:World) (hT:Tab w) (h:Rs w (.slice a l.length c) l) (hv:validB l=true) (he:fnd l u=l.length):Calls Tryz.prog 26 #[.slice a l.length c,.int .i64 u] w fun e w'=>e = .returned (.tuple #[.int .i64 l.length,.bool false])∧Grown w w':=by
 obtain ⟨n,hn⟩:∃ n,l.length=n:=⟨_,rfl⟩
 obtain ⟨v,hvv⟩:∃ v,Value.slice a l.length c=v:=⟨_,rfl⟩
 have hg:Grown w ((w.alloc (.cells #[v] 39)).alloc (.cells #[.int .i64 u] 3)):=((Grown.refl _).alloc _).alloc _
 have HC:Hid (Calls Tryz.prog 38 #[v] ((w.alloc (.cells #[v] 39)).alloc (.cells #[.int .i64 u] 3)) fun e w'=>e = .returned (.bool true)∧Grown ((w.alloc (.cells #[v] 39)).alloc (.cells #[.int .i64 u] 3)) w'):=by
  have:=valid_any v l _ (hT.grown hg) ((show Rs w v l by rw [←hvv];exact h).below hg.below (Nat.le_refl _))
  rw [hv] at this;exact this
 have hd:((w.alloc (.cells #[v] 39)).alloc (.cells #[.int .i64 u] 3)).cell? ⟨w.heap.size,0,none⟩=some v:=cell_up (by simp) _
 have hd2:((w.alloc (.cells #[v] 39)).alloc (.cells #[.int .i64 u] 3)).cell? ⟨w.heap.size+1,0,none⟩=some (.int .i64 u):=by simp
 have HS:Hid (∀ W,Grown ((w.alloc (.cells #[v] 39)).alloc (.cells #[.int .i64 u] 3)) W→Calls Tryz.prog 39 #[.int .i64 n,.func (.func 40) #[] #[.pointer (some ⟨w.heap.size+1,0,none⟩),.pointer (some ⟨w.heap.size,0,none⟩)]] W fun e w'=>e = .returned (.int .i64 n)∧Grown W w'):=fun W hW=>by
  have hv':=(validB_iff l).1 hv
  obtain ⟨a',cap',hs',_,h'⟩:=h.below (hg.trans hW).below (Nat.le_refl _)
  cases hs'
  have:=search_any w.heap.size (w.heap.size+1) a c l u W hv'.2 hv'.1 (by rw [hvv];exact hW.cellv hd) (hW.cellv hd2) h'
  rw [he,hn] at this;exact this
 have HV:Hid (Value.slice a n c=v):=by rw [hn] at hvv;exact hvv
 have hnn:n≤512:=by rw [←hn];exact ((validB_iff l).1 hv).1
 rw [hn]
 clear h hv he hvv hn
 obtain rfl:=HV.out
 clear HV
 have hd3:∀ W,Grown ((w.alloc (.cells #[.slice a n c] 39)).alloc (.cells #[.int .i64 u] 3)) W→W.cell? ⟨w.heap.size,0,none⟩=some (.slice a n c):=fun W hW=>hW.cellv hd
 have HD:Hid (∀ W,Grown ((w.alloc (.cells #[.slice a n c] 39)).alloc (.cells #[.int .i64 u] 3)) W→W.cell? ⟨w.heap.size,0,none⟩=some (.slice a n c)):=hd3
 clear hd3
 go_enter Tryz.func26,Tryz.ntmps26
 go_wp2_with fail
 refine HC.out.mono ?_
 rintro e w1 ⟨rfl,hb1⟩
 have k1:=HD.out w1 hb1
 go_wp2_with fail
 refine (HS.out w1 hb1).mono ?_
 rintro e w2 ⟨rfl,hb2⟩
 have k2:=HD.out w2 (hb1.trans hb2)
 clear hd k1
 go_wp2
 go_quiet (fail)
 go_wp2
 go_ret2
 exact ⟨rfl,((hg.trans hb1).trans hb2).drewN _⟩
set_option maxHeartbeats 1000000 in
theorem find_in (g o c:Nat) (l:List (Int × Int)) (u:Int) (w:World) (hT:Tab w) (h:Rs w (.slice (some ⟨g,o,none⟩) l.length c) l) (hv:validB l=true) (he:fnd l u<l.length):Calls Tryz.prog 26 #[.slice (some ⟨g,o,none⟩) l.length c,.int .i64 u] w fun e w'=>e = .returned (.tuple #[.int .i64 (fnd l u),.bool (decide ((rg l (fnd l u)).1≤u))])∧Grown w w':=by
 obtain ⟨k,hk⟩:∃ k,fnd l u=k:=⟨_,rfl⟩
 obtain ⟨y,hy⟩:∃ y,(rg l k).1=y:=⟨_,rfl⟩
 obtain ⟨n,hn⟩:∃ n,l.length=n:=⟨_,rfl⟩
 obtain ⟨v,hvv⟩:∃ v,Value.slice (some ⟨g,o,none⟩) l.length c=v:=⟨_,rfl⟩
 have hg:Grown w ((w.alloc (.cells #[v] 39)).alloc (.cells #[.int .i64 u] 3)):=((Grown.refl _).alloc _).alloc _
 have HC:Hid (Calls Tryz.prog 38 #[v] ((w.alloc (.cells #[v] 39)).alloc (.cells #[.int .i64 u] 3)) fun e w'=>e = .returned (.bool true)∧Grown ((w.alloc (.cells #[v] 39)).alloc (.cells #[.int .i64 u] 3)) w'):=by
  have:=valid_any v l _ (hT.grown hg) ((show Rs w v l by rw [←hvv];exact h).below hg.below (Nat.le_refl _))
  rw [hv] at this;exact this
 have hd:((w.alloc (.cells #[v] 39)).alloc (.cells #[.int .i64 u] 3)).cell? ⟨w.heap.size,0,none⟩=some v:=cell_up (by simp) _
 have hd2:((w.alloc (.cells #[v] 39)).alloc (.cells #[.int .i64 u] 3)).cell? ⟨w.heap.size+1,0,none⟩=some (.int .i64 u):=by simp
 have HS:Hid (∀ W,Grown ((w.alloc (.cells #[v] 39)).alloc (.cells #[.int .i64 u] 3)) W→Calls Tryz.prog 39 #[.int .i64 n,.func (.func 40) #[] #[.pointer (some ⟨w.heap.size+1,0,none⟩),.pointer (some ⟨w.heap.size,0,none⟩)]] W fun e w'=>e = .returned (.int .i64 k)∧Grown W w'):=fun W hW=>by
  have hv':=(validB_iff l).1 hv
  obtain ⟨a',cap',hs',_,h'⟩:=h.below (hg.trans hW).below (Nat.le_refl _)
  cases hs'
  have:=search_any w.heap.size (w.heap.size+1) (some ⟨g,o,none⟩) c l u W hv'.2 hv'.1 (by rw [hvv];exact hW.cellv hd) (hW.cellv hd2) h'
  rw [hk,hn] at this;exact this
 have HV:Hid (Value.slice (some ⟨g,o,none⟩) n c=v):=by rw [hn] at hvv;exact hvv
 have hnn:n≤512:=by rw [←hn];exact ((validB_iff l).1 hv).1
 have HR:Hid (∀ W,Grown w W→W.cell? ⟨g,o+k*2,none⟩=some (.int .i64 y)):=fun W hW=>by
  obtain ⟨a',cap',hs',_,h'⟩:=h
  cases hs'
  rcases h' with rfl | ⟨g',o',hgo,h'⟩
  · simp at he
  · cases hgo
    have:=(h' k (by omega)).1
    rw [hy] at this
    exact hW.cellv this
 have hkn:(k:Int)<(n:Int):=by omega
 have hk0:(0:Int)≤(k:Int):=by omega
 rw [hn,hk,hy]
 clear h hv he hvv hn hk hy
 obtain rfl:=HV.out
 clear HV
 have hd3:∀ W,Grown ((w.alloc (.cells #[.slice (some ⟨g,o,none⟩) n c] 39)).alloc (.cells #[.int .i64 u] 3)) W→W.cell? ⟨w.heap.size,0,none⟩=some (.slice (some ⟨g,o,none⟩) n c):=fun W hW=>hW.cellv hd
 have HD:Hid (∀ W,Grown ((w.alloc (.cells #[.slice (some ⟨g,o,none⟩) n c] 39)).alloc (.cells #[.int .i64 u] 3)) W→W.cell? ⟨w.heap.size,0,none⟩=some (.slice (some ⟨g,o,none⟩) n c)):=hd3
 clear hd3
 go_enter Tryz.func26,Tryz.ntmps26
 go_wp2_with fail
 refine HC.out.mono ?_
 rintro e w1 ⟨rfl,hb1⟩
 have k1:=HD.out w1 hb1
 go_wp2_with fail
 refine (HS.out w1 hb1).mono ?_
 rintro e w2 ⟨rfl,hb2⟩
 have k2:=HD.out w2 (hb1.trans hb2)
 have k3:=HR.out w2 ((hg.trans hb1).trans hb2)
 have k4:=(hb1.trans hb2).cellv hd2
 clear hd hd2 k1
 go_wp2
 go_quiet (fail)
 go_wp2
 go_ret2
 exact ⟨rfl,((hg.trans hb1).trans hb2).drewN _⟩
theorem find_any (v:Value) (l:List (Int × Int)) (u:Int) (w:World) (hT:Tab w) (h:Rs w v l):Calls Tryz.prog 26 #[v,.int .i64 u] w fun e w'=>e = .returned (.tuple #[.int .i64 (if validB l then (fnd l u:Int) else 0),.bool (validB l && decide (hasU l u))])∧Grown w w':=by
 by_cases hv:validB l=true
 · have hG:=((validB_iff l).1 hv).2
   simp only [hv,if_true,Bool.true_and]
   have h0:=h
   obtain ⟨a,c,rfl,_,hr⟩:=h
   by_cases he:fnd l u=l.length
   · rw [decide_eq_false (hasU_end hG he),he]
     exact find_end a c l u w hT h0 hv he
   · have he':fnd l u<l.length:=by have:=fnd_le l u;omega
     rcases hr with rfl | ⟨g,o,rfl,hr⟩
     · simp at he'
     · have hd:decide (hasU l u)=decide ((rg l (fnd l u)).1≤u):=by simp only [hasU_in hG he']
       rw [hd]
       exact find_in g o c l u w hT h0 hv he'
 · have hv':validB l=false:=by simpa using hv
   simp only [hv']
   exact find_bad v l u w hT h hv'
end Go.Proofs
