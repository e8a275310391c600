/-
  Several texts in one (Wdr Wer).
-/
import Derived.RangeFuncNested
import Derived.RangeFuncBound
import Derived.RangeFuncCalls
import Derived.RangeFuncLeaves
import Derived.Shelf.Abstract
import Derived.Shelf.RegionOpen
import Derived.WalkKit
import Derived.WalkSpells
import Derived.WalkLawsBesides
import Derived.OwnWalkIn
import Derived.TacticsInMore
import Derived.LoopNIn
import Derived.LoopIn
import Derived.BigQuiet
import Derived.RegionIn
import Derived.Deep.QuietTactic
import Derived.Deep.RegionWith
import Derived.Lib.OthersKept
import Derived.Maps.AppendAt
import Derived.Lib.SmallJoins
import Derived.Deep.DrawnRows
import Derived.Shelf.SlSortCmp.QuietGrown
import Derived.Test.YtcfcjljapamcoabGreatDoorWbr
import Derived.Laws.CopyOwn
import Derived.Laws.MakeOwn
import Derived.Test.YtcfcjljapamcoabGreatDoorWcr
namespace Go.Proofs
open Go.RowKit Go.Shelf
set_option maxRecDepth 100000
attribute [local go_sem] Oper.semAt_some
attribute [local go_sem ↓] Go.wp_at_zero Go.wp_at_succ
def IRd (w:World) (g o:Nat) (l:List Int):Prop:=∀ (j:Nat) (hj:j<l.length),w.cell? ⟨g,o+j,none⟩=some (.int .i64 l[j])
def IR (w:World) (v:Value) (l:List Int):Prop:=
 ∃ (a:Option Addr) (cap:Nat),v = .slice a l.length cap∧l.length≤cap∧(l=[]∨∃ g o,a=some ⟨g,o,none⟩∧IRd w g o l)
theorem IRd.below {w w':World} {n g o:Nat} {l:List Int} (h:IRd w g o l) (hb:Below n w w') (hn:w.heap.size≤n):IRd w' g o l:=fun j hj=>cell_below (h j hj) hb hn
theorem IR.below {w w':World} {n:Nat} {v:Value} {l:List Int} (h:IR w v l) (hb:Below n w w') (hn:w.heap.size≤n):IR w' v l:=by
 obtain ⟨a,cap,h1,h2,h3 | ⟨g,o,h3,h4⟩⟩:=h
 · exact ⟨a,cap,h1,h2,.inl h3⟩
 · exact ⟨a,cap,h1,h2,.inr ⟨g,o,h3,h4.below hb hn⟩⟩
theorem IR.grown {w w':World} {v:Value} {l:List Int} (h:IR w v l) (k:Grown w w'):IR w' v l:=h.below k.below (Nat.le_refl _)
theorem IR.sl {w:World} {v:Value} {l:List Int} (h:IR w v l):IsSl v:=by
 obtain ⟨a,c,rfl,_⟩:=h
 exact ⟨a,_,c,rfl⟩
def hasB (l:List (Int × Int)) (u:Int):Bool:=validB l && decide (hasU l u)
def stB (ls:List (List (Int × Int))) (us:List Int):Bool:=decide (ls.length=us.length) && (ls.zip us).all fun x=>hasB x.1 x.2
end Go.Proofs
namespace Go.Proofs
open Go.RowKit Go.Shelf
set_option maxRecDepth 100000
attribute [local go_sem] Oper.semAt_some
def ints (l:List Int):List Value:=l.map fun x => .int .i64 x
theorem ints_append (l k:List Int):ints (l++k)=ints l++ints k:=by simp [ints]
theorem ints_length (l:List Int):(ints l).length=l.length:=by simp [ints]
theorem ints_one (l:List Int):∀ u∈ints l,u.oneCell'=true:=by
 intro u hu
 unfold ints at hu
 obtain ⟨x,_,rfl⟩:=List.mem_map.1 hu
 rfl
def OwnI (w:World) (base:Nat) (v:Value) (l:List Int):Prop:=w.ownsRow base 3 1 v l.length (ints l)
theorem OwnI.nil (w:World) (base:Nat):OwnI w base (.slice none 0 0) []:=World.ownsRow_nil _ _ _ _
theorem OwnI.below {w w':World} {base n:Nat} {v:Value} {l:List Int} (h:OwnI w base v l) (hb:Below n w w') (hn:w.heap.size≤n):OwnI w' base v l:=by
 refine ⟨h.1,?_⟩
 rcases h.2 with h | ⟨g,cap,cur,rfl,h1,h2,h3⟩
 · exact .inl h
 · have:g<w.heap.size:=(Array.getElem?_eq_some_iff.1 h2).1
   exact .inr ⟨g,cap,cur,rfl,h1,(hb.block g (by omega)).trans h2,h3⟩
theorem OwnI.alloc {w:World} {base:Nat} {v:Value} {l:List Int} (h:OwnI w base v l) (o:Obj):OwnI (w.alloc o) base v l:=World.ownsRow.alloc h o
theorem OwnI.le {w:World} {base base':Nat} {v:Value} {l:List Int} (h:OwnI w base v l) (hb:base'≤base):OwnI w base' v l:=Joins.ownsRow_le h hb
theorem OwnI.ir {w:World} {base:Nat} {v:Value} {l:List Int} (h:OwnI w base v l):IR w v l:=by
 rcases h.2 with ⟨rfl,h0⟩ | ⟨g,cap,cur,rfl,_,_,hc,_⟩
 · have:l=[]:=List.eq_nil_of_length_eq_zero h0
   subst this
   exact ⟨none,0,rfl,Nat.le_refl _,.inl rfl⟩
 · refine ⟨_,cap,rfl,hc,.inr ⟨g,0,rfl,fun j hj => ?_⟩⟩
   have:=World.ownsRow.cells h rfl j (.int .i64 l[j]) (by simp [ints,hj])
   rw [add_zero_at] at this
   rw [Nat.zero_add]
   exact this
theorem iinfo3:(Tryz.prog.info? 3).map (fun i=>(i.zero,i.size,i.bytes))=some (some (.int .i64 0),1,8):=by kernel_rfl
theorem push_I {ops:Array Oper} {rest:List Oper} {o:Oper} {a:Act} {Q:Exit→Act→World→Prop} {w:World} (hgd:o.guard=none) (s x:Operand) (t:TypeId)
 (ho:o.op = .call { callee := .builtin .append,args:=#[s,x],argTypes:=#[t,t] }) (ht:Tryz.prog.underlying t=some (.slice 3))
 (base:Nat) (v:Value) (l:List Int) (hs:a.eval s=v) (hown:OwnI w base v l) (g c:Nat) (p:Int) (hx:a.eval x = .slice (some ⟨g,0,none⟩) 1 c)
 (hp:w.cell? ⟨g,0,none⟩=some (.int .i64 p)) (hl:l.length+1≤8796093022208) (hbase:base≤w.heap.size)
 (h:∀ v' w',OwnI w' base v' (l++[p])→Below base w w'→wpList Tryz.prog ops Q rest (a.put o.dst v') w'):wpList Tryz.prog ops Q (o::rest) a w:=by
 obtain ⟨i0,hi,hz0,hz1,hz2⟩:=info_parts iinfo3
 refine wpList_append_own w hgd s x t ho base 3 i0 (.int .i64 0) 1 8 ht hi hz0 hz1 hz2 rfl (by decide) v l.length (ints l) hs hown ⟨g,0,none⟩ 1 c (ints [p]) hx rfl ?_ (fun u hu=>by simp [ints] at hu;subst hu;rfl) (by unfold maxLen;omega) (by omega) hbase (fun v' w' h2 h3 _=>h v' w' ?_ ((Below.refl _ w).grown h3 hbase (fun k hk=>(World.ownsRow.lt hown k hk).1)))
 · intro j u hj
   match j,hj with
   | 0,hj=>simp [ints] at hj;subst hj;exact hp
 · unfold OwnI
   rw [ints_append,List.length_append]
   exact h2
def NewI (w:World) (base:Nat) (v:Value) (l:List Int):Prop:=∃ g,v = .slice (some ⟨g,0,none⟩) l.length l.length∧base≤g∧w.heap[g]? = some (.cells (ints l).toArray 3 (0,0))
theorem NewI.own {w:World} {base:Nat} {v:Value} {l:List Int} (h:NewI w base v l) (hl:l.length≤maxLen):OwnI w base v l:=by
 obtain ⟨g,rfl,h1,h2⟩:=h
 exact ⟨by simp [ints],.inr ⟨g,l.length,_,rfl,h1,h2,Nat.le_refl _,hl,by simp [ints],by rw [Nat.mul_one];exact List.take_of_length_le (by simp [ints])⟩⟩
theorem make_ints (n:Nat) (hn:n≤1000000):∃ Z:List Value,Z.length=n∧∀ W:World,(Instr.makeSlice 25 (.int .i64 n) (.int .i64 n)).run Tryz.prog W = .ok (.slice (some ⟨W.heap.size,0,none⟩) n n) (W.alloc (.cells Z.toArray 3)):=by
 obtain ⟨i0,hi,hz0,hz1,hz2⟩:=info_parts iinfo3
 refine ⟨(madeCells (Value.int .i64 0).cells n).toList,by simp [size_madeCells],fun W => ?_⟩
 have h:=run_make (P:=Tryz.prog) W 25 3 i0 (.int .i64 0) Tryz.underlying25 hi hz0 .i64 .i64 (n:Int) (n:Int) (by omega) (Int.le_refl _) (by rw [hz2];omega) (by omega)
 rw [h,show (n:Int).toNat=n by omega,hz1,Nat.mul_one,Array.toArray_toList]
theorem size3:(Tryz.prog.info? 3).map (·.size)=some 1:=by kernel_rfl
theorem fstE_ok {key:List (List (Int × Int))} : ∀ {ps:List Pc},fstE key ps=0→∀ p∈ps,pcE key p=0
 | [],_,p,hp=>by cases hp
 | q::r,h,p,hp=>by
  unfold fstE at h
  by_cases hq:pcE key q=0
  · rw [if_pos hq] at h
    rcases List.mem_cons.1 hp with rfl | hp
    · exact hq
    · exact fstE_ok h p hp
  · rw [if_neg hq] at h
    exact absurd h hq
structure Ok (r:Rl):Prop where
 k0:0<r.key.length
 k8:r.key.length≤8
 a8:r.ante.length≤8
 p8:r.post.length≤8
 r16:r.res.length≤16
 aS:r.ante.all okS=true
 kS:r.key.all okS=true
 pS:r.post.all okS=true
 pc:∀ p∈r.res,pcE r.key p=0
 c0:0≤r.cu
 c1:r.cu≤r.res.length
theorem chk_ok {r:Rl} (h:chk r=0):Ok r:=by
 unfold chk at h
 by_cases h1:r.key.length=0∨8<r.key.length
 · rw [if_pos h1] at h;cases h
 rw [if_neg h1] at h
 by_cases h2:8<r.ante.length∨8<r.post.length∨16<r.res.length
 · rw [if_pos h2] at h;cases h
 rw [if_neg h2] at h
 by_cases h3:(r.ante.all okS && r.key.all okS && r.post.all okS)=false
 · rw [if_pos h3] at h;cases h
 rw [if_neg h3] at h
 by_cases h4:fstE r.key r.res≠0
 · rw [if_pos h4] at h;exact absurd h h4
 rw [if_neg h4] at h
 by_cases h5:r.cu<0∨(r.res.length:Int)<r.cu
 · rw [if_pos h5] at h;cases h
 simp only [Bool.not_eq_false,Bool.and_eq_true] at h3
 simp only [ne_eq,Classical.not_not] at h4
 exact ⟨by omega,by omega,by omega,by omega,by omega,h3.1.1,h3.1.2,h3.2,fstE_ok h4,by omega,by omega⟩
theorem pc_ok {key:List (List (Int × Int))} {p:Pc} (h:pcE key p=0):(p.k=1∧wd p.u≠0∧p.y=0∧p.tl=[])∨(p.k=2∧p.u=0∧p.tl=[]∧0≤p.y∧p.y<key.length)∨(p.k=3∧p.u=0∧0≤p.y∧p.y<key.length∧matB (keyAt key p.y) p.tl=true):=by
 unfold pcE at h
 by_cases h1:p.k=1
 · rw [if_pos h1] at h
   by_cases h2:wd p.u=0∨p.y≠0∨p.tl≠[]
   · rw [if_pos h2] at h;cases h
   · simp only [not_or,Classical.not_not,ne_eq] at h2
     exact .inl ⟨h1,h2.1,h2.2.1,h2.2.2⟩
 · rw [if_neg h1] at h
   by_cases h2:p.k=2∨p.k=3
   · rw [if_pos h2] at h
     by_cases h3:p.u≠0∨(p.k=2∧p.tl≠[])
     · rw [if_pos h3] at h;cases h
     · rw [if_neg h3] at h
       by_cases h4:p.y<0∨(key.length:Int)≤p.y
       · rw [if_pos h4] at h;cases h
       · rw [if_neg h4] at h
         by_cases h5:p.k=3∧matB (keyAt key p.y) p.tl=false
         · rw [if_pos h5] at h;cases h
         · simp only [not_or,not_and,Classical.not_not,ne_eq,Bool.not_eq_false] at h3 h5
           rcases h2 with h2 | h2
           · exact .inr (.inl ⟨h2,h3.1,h3.2 h2,by omega,by omega⟩)
           · exact .inr (.inr ⟨h2,h3.1,by omega,by omega,h5 h2⟩)
   · rw [if_neg h2] at h;cases h
end Go.Proofs
